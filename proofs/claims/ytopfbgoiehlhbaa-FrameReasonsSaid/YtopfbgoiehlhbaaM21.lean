/- Texts that the walks of this seat lean on, put together: each has its own remark below. -/
import Derived.Test.YtopfbgoiehlhbaaM01
import Derived.Test.YtopfbgoiehlhbaaM18
import Derived.Test.YtopfbgoiehlhbaaM20

/- frame.layers. -/
namespace Go.Proofs.Ytopfbgoiehlhbaa
open Go.RowKit

theorem built96 (s : ByteArray) (n : Int) : Try.prog.built 96 [(0, .string s), (1, .int .i64 n)] = some #[.string s, .int .i64 n] := by kernel_rfl

set_option maxRecDepth 100000 in
set_option maxHeartbeats 8000000 in
theorem layers_any (v : Value) (zs : List Nat) (w : World) (hr : Rd w v (nus .u8 zs)) (hb : ∀ c ∈ zs, c < 256) :
    Calls Try.prog 48 #[v] w fun e w' => ∃ x, e = .returned x ∧ w'.ownsRow w.heap.size 96 2 x (lys zs).length (lcells (lys zs)) ∧ Below w.heap.size w w' := by
  have CN := Lib.hid (fun W (h : Rd W v (nus .u8 zs)) => net_any v zs W h hb)
  have K := Lib.hid (Below.refl w.heap.size w)
  have HR := Lib.hid hr
  obtain ⟨LS, hLS⟩ : ∃ L, L = lys zs := ⟨_, rfl⟩
  rw [← hLS]
  unfold lys at hLS
  have HLS := Lib.hid hLS
  clear hLS
  by_cases hS : (net zs).2.2 = 1
  · have e : LS = [] := by rw [HLS.out, if_pos hS]
    subst e
    rw [hS] at CN
    obtain ⟨a, cap, rfl, -, -⟩ := rd_shape hr
    clear hr hb HLS
    generalize (net zs).1 = at0 at *
    generalize (net zs).2.1 = kind at *
    generalize zs.length = n at *
    clear hS
    go_enter Try.func48, Try.ntmps48
    go_wp2_with fail
    refine (CN.out _ (HR.out.below K.out)).mono ?_
    rintro e V1 ⟨rfl, rfl⟩
    go_wp2
    go_ret
    exact ⟨_, rfl, World.ownsRow_nil _ _ _ _, K.out⟩
  have h14 : 14 ≤ zs.length := by
    rcases Nat.lt_or_ge zs.length 14 with h | h
    · rw [net_short zs h] at hS; exact absurd rfl hS
    · exact h
  have CT := Lib.hid (fun W (h : Rd W v (nus .u8 zs)) => tagged_any v zs W h hb h14)
  have HLS1 := Lib.hid (HLS.out.trans (if_neg hS))
  have hk2 : (net zs).2.2 = 0 → (net zs).2.1 = if sixF zs then 34525 else 2048 := by
    intro h
    unfold sixF
    rcases (net_ok zs h).2.2 with hk | hk <;> rw [hk] <;> rfl
  have HK2 := Lib.hid hk2
  have CP := Lib.hid (fun (h : (net zs).2.2 = 0) W (hR : Rd W v (nus .u8 zs)) => packet_any v zs (net zs).1 (sixF zs) W hR hb (by have := net_ok zs h; omega) (net_ok zs h).2.1)
  have CS := Lib.hid (fun (h : (net zs).2.2 = 0) hok W (hR : Rd W v (nus .u8 zs)) => segment_any v zs (net zs).1 (sixF zs) W hR hb (by have := net_ok zs h; omega) (net_ok zs h).2.1 hok)
  have YPV : Hid ((pv (sixF zs) (net zs).1 (pkt zs)).size = Array.size (#[Value.bool false, .int .i64 0, .int .i64 0, .int .i64 0, .int .u8 0, .bool false, .int .u8 0, .int .u8 0, .int .u8 0, .int .u8 0, .int .u8 0, .int .u8 0, .int .u8 0, .int .u8 0, .int .u8 0, .int .u8 0, .int .u8 0, .int .u8 0, .int .u8 0, .int .u8 0, .int .u8 0, .int .u8 0, .bool false, .int .u8 0, .int .u8 0, .int .u8 0, .int .u8 0, .int .u8 0, .int .u8 0, .int .u8 0, .int .u8 0, .int .u8 0, .int .u8 0, .int .u8 0, .int .u8 0, .int .u8 0, .int .u8 0, .int .u8 0, .int .u8 0, .int .u16 0, .int .u16 0, .int .u8 0] : Array Value)) := pv_size _ _ _
  have SPV := Lib.hid (pv_size (sixF zs) (net zs).1 (pkt zs))
  have ZPV := Lib.hid (i72.trans (congrArg some (pv_size (sixF zs) (net zs).1 (pkt zs)).symm))
  have APV := Lib.hid (pv_all (sixF zs) (net zs).1 (pkt zs))
  have PVE := Lib.hid (fun h : fhr (sixF zs) (pkt zs) = 0 => (show pv (sixF zs) (net zs).1 (pkt zs) = vcells (sixF zs) (net zs).1 ((net zs).1 + fS (sixF zs) (pkt zs)) ((net zs).1 + fL (sixF zs) (pkt zs)) (kcells (fP (sixF zs) (pkt zs)) (fA (sixF zs) (pkt zs)) (fB (sixF zs) (pkt zs)) 0 0) 0 from by unfold pv; rw [if_pos h]))
  have L0 := Lib.hid (show ly0 zs = (0, 0) :: if u2 zs 12 = 33024 then [(1, 14)] else [] from rfl)
  have SGT := Lib.hid (show sgT (sixF zs) (net zs).1 zs = sgm zs from rfl)
  rw [show zs.drop (net zs).1 = pkt zs from rfl] at CP CS
  rw [SGT.out] at CS
  clear SGT HLS
  obtain ⟨a, cap, rfl, -, hlm⟩ := rd_shape hr
  have hsz := rr_lt zs
  clear hk2 hr hb hsz h14
  generalize fs (fP (sixF zs) (pkt zs)) (sgm zs) = r2 at *
  generalize sv (sixF zs) (net zs).1 zs = VS at *
  generalize hPV : pv (sixF zs) (net zs).1 (pkt zs) = PV at *
  generalize fhr (sixF zs) (pkt zs) = r1 at *
  generalize fS (sixF zs) (pkt zs) = sS at *
  generalize fL (sixF zs) (pkt zs) = sL at *
  generalize fP (sixF zs) (pkt zs) = pp at *
  generalize fA (sixF zs) (pkt zs) = SA at *
  generalize fB (sixF zs) (pkt zs) = SB at *
  generalize (net zs).1 = at0 at *
  generalize (net zs).2.1 = kind at *
  generalize (net zs).2.2 = r at *
  generalize sixF zs = six at *
  generalize ly0 zs = LL at *
  generalize zs.length = n at *
  clear hPV
  unfold maxLen at hlm
  have g1 : ((r : Int) == 1) = false := by rw [beq_eq_false_iff_ne]; omega
  go_enter Try.func48, Try.ntmps48
  go_wp2_with fail
  refine (CN.out _ (HR.out.below K.out)).mono ?_
  rintro e V1 ⟨rfl, rfl⟩
  go_wp2_with (((with_reducible refine wpList_one_rec (o := ⟨some 17, .buildSlice 92 1 #[(0, Operand.tmp 16)], _, _, _, _⟩) ?lg1 92 96 (.tmp 16) ?lo1 { data := #[101, 116, 104, 101, 114] } 0 ?lx1 Try.underlying92 rec96 ?_); (case lg1 => rfl); (case lo1 => rfl); (case lx1 => rfl)))
  intro V2 hg1 hy hz1
  replace K := Lib.hid (K.out.trans (hy.mono K.out.size))
  clear hy
  have HG1 := Lib.hid hg1
  clear hg1
  have LR := Lib.hid (own_rec (base := w.heap.size) HG1.out (Nat.le_refl _))
  go_wp2_with fail
  refine (CT.out _ (HR.out.below K.out)).mono ?_
  rintro e V3 ⟨rfl, hy⟩
  replace K := Lib.hid (K.out.trans (hy.mono K.out.size))
  replace LR := Lib.hid (row_under2 LR.out hy)
  clear hy
  by_cases htg : u2 zs 12 = 33024
  case pos =>
    have HLL := Lib.hid (show LL = [(0, 0), (1, 14)] by rw [L0.out, if_pos htg])
    have gd : decide (u2 zs 12 = 33024) = true := decide_eq_true htg
    clear L0 htg
    generalize decide (u2 zs 12 = 33024) = dd at *
    subst gd
    go_wp2_with (((with_reducible refine wpList_one_rec (o := ⟨some 22, .buildSlice 92 1 #[(0, Operand.tmp 21)], _, _, _, _⟩) ?lg2 92 96 (.tmp 21) ?lo2 { data := #[118, 108, 97, 110] } 14 ?lx2 Try.underlying92 rec96 ?_); (case lg2 => rfl); (case lo2 => rfl); (case lx2 => rfl)))
    intro V4 hg2 hy hz2
    replace K := Lib.hid (K.out.trans (hy.mono K.out.size))
    replace LR := Lib.hid (row_under2 LR.out hy)
    clear hy
    have HG2 := Lib.hid hg2
    clear hg2
    go_wp2_with (((with_reducible refine wpList_app_rec (o := ⟨some 23, .call { callee := .builtin .append, args := #[Operand.tmp 20, Operand.tmp 22], argTypes := #[92, 92] }, _, _, _, _⟩) ?lg3 (.tmp 20) (.tmp 22) 92 96 ?lo3 Try.underlying92 rec96 w.heap.size (.slice (some ⟨w.heap.size, 0, none⟩) 1 1) 1 [.string { data := #[101, 116, 104, 101, 114] }, .int .i64 0] ?ls3 LR.out (V3.heap.size) { data := #[118, 108, 97, 110] } 14 ?lx3 HG2.out ?ln3 K.out.size ?_); (case lg3 => rfl); (case lo3 => rfl); (case ls3 => rfl); (case lx3 => rfl); (case ln3 => omega)))
    intro x3 V5 oz gz
    replace K := Lib.hid (below_grown K.out LR.out (Nat.le_refl _) K.out.size gz)
    replace LR := Lib.hid oz
    clear oz gz
    by_cases hr0 : r = 0
    case neg =>
      have e : LS = LL := by rw [HLS1.out, if_pos hr0]
      subst e
      have g0 : ((r : Int) != 0) = true := by simp; omega
      clear hr0
      go_wp2
      go_ret
      exact ⟨_, rfl, by rw [HLL.out]; exact LR.out, K.out⟩
    have HLS2 := Lib.hid (HLS1.out.trans (if_neg (fun h => h hr0)))
    have CP2 := Lib.hid (CP.out hr0)
    have CS2 := Lib.hid (CS.out hr0)
    have hk := HK2.out hr0
    clear CP CS HLS1 HK2
    subst hr0 hk
    generalize (if six then 34525 else 2048 : Nat) = kind at *
    go_wp2_with fail
    refine (CP2.out _ (HR.out.below K.out)).mono ?_
    rintro e V6 ⟨rfl, hy⟩
    replace K := Lib.hid (K.out.trans (hy.mono K.out.size))
    replace LR := Lib.hid (row_under2 LR.out hy)
    clear hy
    go_wp2_with (((with_reducible refine wpList_blk_store (op := ⟨none, .store 31 (.tmp 7) (.tmp 32), _, _, _, _⟩) ?sg1 31 (.tmp 7) (.tmp 32) ?so1 (V6.heap.size) PV ?sx1 ?sy1 (Blk.new V6 31 #[Value.bool false, .int .i64 0, .int .i64 0, .int .i64 0, .int .u8 0, .bool false, .int .u8 0, .int .u8 0, .int .u8 0, .int .u8 0, .int .u8 0, .int .u8 0, .int .u8 0, .int .u8 0, .int .u8 0, .int .u8 0, .int .u8 0, .int .u8 0, .int .u8 0, .int .u8 0, .int .u8 0, .int .u8 0, .bool false, .int .u8 0, .int .u8 0, .int .u8 0, .int .u8 0, .int .u8 0, .int .u8 0, .int .u8 0, .int .u8 0, .int .u8 0, .int .u8 0, .int .u8 0, .int .u8 0, .int .u8 0, .int .u8 0, .int .u8 0, .int .u8 0, .int .u16 0, .int .u16 0, .int .u8 0]) YPV.out ZPV.out APV.out ?_); (case sg1 => rfl); (case so1 => rfl); (case sx1 => rfl); (case sy1 => rfl)))
    intro V7 hA hF hB
    have hy := ((Below.refl V6.heap.size V6).alloc (Nat.le_refl _) (.cells #[Value.bool false, .int .i64 0, .int .i64 0, .int .i64 0, .int .u8 0, .bool false, .int .u8 0, .int .u8 0, .int .u8 0, .int .u8 0, .int .u8 0, .int .u8 0, .int .u8 0, .int .u8 0, .int .u8 0, .int .u8 0, .int .u8 0, .int .u8 0, .int .u8 0, .int .u8 0, .int .u8 0, .int .u8 0, .bool false, .int .u8 0, .int .u8 0, .int .u8 0, .int .u8 0, .int .u8 0, .int .u8 0, .int .u8 0, .int .u8 0, .int .u8 0, .int .u8 0, .int .u8 0, .int .u8 0, .int .u8 0, .int .u8 0, .int .u8 0, .int .u8 0, .int .u16 0, .int .u16 0, .int .u8 0] 31)).trans (hB _ (Nat.le_refl _))
    replace K := Lib.hid (K.out.trans (hy.mono K.out.size))
    replace LR := Lib.hid (row_under2 LR.out hy)
    have HX := Lib.hid hA
    clear hA hF hB hy
    by_cases hr1 : r1 = 0
    case neg =>
      have e : LS = LL := by rw [HLS2.out, if_pos hr1]
      subst e
      have g0 : ((r1 : Int) != 0) = true := by simp; omega
      clear hr1
      go_wp2
      go_ret
      exact ⟨_, rfl, by rw [HLL.out]; exact LR.out, K.out⟩
    have HLS3 := Lib.hid (HLS2.out.trans (if_neg (fun h => h hr1)))
    have CS3 := Lib.hid (CS2.out hr1)
    have hPV := PVE.out hr1
    obtain ⟨q0, q1, q2, -, q4⟩ := vget six at0 (at0 + sS) (at0 + sL) 0 pp 0 0 SA SB
    rw [← hPV] at q0 q1 q2 q4
    have C1 := Lib.hid q1
    have C2 := Lib.hid q2
    have NN := Lib.hid (fun W => netName_any PV six W SPV.out q0)
    have SN := Lib.hid (fun W => segName_any PV pp W SPV.out q4)
    clear q0 q1 q2 q4 hPV PVE CS2 HLS2 CP2
    subst hr1
    generalize hsx : (if six then 3 else 2 : Nat) = kn at *
    generalize hpx : (if pp = 17 then 5 else 4 : Nat) = kp at *
    generalize at0 + sS = sg at *
    clear hsx hpx
    go_wp2_with fail
    refine wp_region_held (S := (fun w' : World => Blk w' (V6.heap.size) 31 PV)) (by kernel_rfl) ?_
    change wpAnyH _ _ _ _ _ _ _ _ V7.drew
    have hy : Below V7.heap.size V7 V7.drew := (Below.refl _ _).drew
    replace K := Lib.hid (K.out.trans (hy.mono K.out.size))
    replace LR := Lib.hid (row_under2 LR.out hy)
    replace HX := Lib.hid (HX.out.below hy HX.out.lt)
    clear hy
    generalize V7.drew = Z4a at *
    refine wpAnyH_take (i := 0) (oi := { dst := some 37, op := Op.move (Operand.tmp 6), type := 92, pos := "frame.go:119", after := #[], guard := none }) (v := ?_) rfl (by kernel_rfl) (by kernel_rfl) (by kernel_rfl) (fun _ _ _ h => h) (Or.inl ⟨by rfl, ?_⟩) HX.out ?_
    rotate_left
    · (intro w1 hS; clear hS; go_simp; try with_reducible rfl)
    simp only [Act.put, List.setIfInBounds_toArray, List.set_cons_zero, List.set_cons_succ]
    refine wpAnyH_take (i := 1) (oi := { dst := some 38, op := Op.load 31 (Operand.tmp 7), type := 31, pos := "frame.go:119", after := #[], guard := none }) (v := .agg PV) rfl (by kernel_rfl) (by kernel_rfl) (by kernel_rfl) (fun _ _ _ h => h) (Or.inl ⟨by rfl, ?_⟩) HX.out ?_
    · (intro w1 hS; exact exec_load 31 (.tmp 7) rfl _ rfl _ (run_blk_load (P := Try.prog) 31 (V6.heap.size) _ hS Try.underlying31 rfl ZPV.out))
    simp only [Act.put, List.setIfInBounds_toArray, List.set_cons_zero, List.set_cons_succ]
    refine wpAnyH_take (i := 3) (oi := { dst := some 40, op := Op.fieldAddr 31 (Operand.tmp 7) 1, type := 0, pos := "frame.go:119", after := #[], guard := none }) (v := ?_) rfl (by kernel_rfl) (by kernel_rfl) (by kernel_rfl) (fun _ _ _ h => h) (Or.inl ⟨by rfl, ?_⟩) HX.out ?_
    rotate_left
    · (intro w1 hS; clear hS; go_simp; try with_reducible rfl)
    simp only [Act.put, List.setIfInBounds_toArray, List.set_cons_zero, List.set_cons_succ]
    refine wpAnyH_take (i := 4) (oi := { dst := some 41, op := Op.load 3 (Operand.tmp 40), type := 3, pos := "frame.go:119", after := #[{ on := 3, ground := Ground.data }], guard := none }) (v := ?_) rfl (by kernel_rfl) (by kernel_rfl) (by kernel_rfl) (fun _ _ _ h => h) (Or.inl ⟨by rfl, ?_⟩) HX.out ?_
    rotate_left
    · (intro w1 hS; have q := (hS.cell 1).trans C1.out; clear hS; go_simp; try with_reducible rfl)
    simp only [Act.put, List.setIfInBounds_toArray, List.set_cons_zero, List.set_cons_succ]
    refine wpAnyH_ready (rs := [2]) (by kernel_rfl) (by simp) ?_
    refine AllReadyH.cons (o := { dst := some 39, op := Op.call { callee := Callee.value (Operand.func 65), args := #[Operand.tmp 38], argTypes := #[31] }, type := 9, pos := "frame.go:119", after := #[{ on := 1, ground := Ground.data }], guard := none }) rfl (fun KK hK => ?_) AllReadyH.nil
    go_simp
    refine (NN.out Z4a).mono ?_
    rintro e Z4b ⟨rfl, hy⟩
    replace K := Lib.hid (K.out.trans (hy.mono K.out.size))
    replace LR := Lib.hid (row_under2 LR.out hy)
    replace HX := Lib.hid (HX.out.below hy HX.out.lt)
    clear hy
    refine hK.out _ _ HX.out (fun _ => ?_)
    clear hK KK
    try simp only [Act.put, List.setIfInBounds_toArray, List.set_cons_zero, List.set_cons_succ]
    refine wpAnyH_take (i := 5) (oi := { dst := some 42, op := Op.build 96 #[(0, Operand.tmp 39), (1, Operand.tmp 41)], type := 96, pos := "frame.go:119", after := #[{ on := 2, ground := Ground.data }, { on := 4, ground := Ground.data }], guard := none }) (v := .agg #[.string (nmS kn), .int .i64 ((at0 : Nat) : Int)]) rfl (by kernel_rfl) (by kernel_rfl) (by kernel_rfl) (fun _ _ _ h => h) (Or.inl ⟨by rfl, ?_⟩) HX.out ?_
    · (intro w1 hS; exact exec_build 96 _ rfl #[(0, .string (nmS kn)), (1, .int .i64 ((at0 : Nat) : Int))] (by kernel_rfl) #[.string (nmS kn), .int .i64 ((at0 : Nat) : Int)] (built96 _ _))
    simp only [Act.put, List.setIfInBounds_toArray, List.set_cons_zero, List.set_cons_succ]
    refine wpAnyH_ready (rs := [6]) (by kernel_rfl) (by simp) ?_
    refine AllReadyH.cons (o := { dst := some 43, op := Op.buildSlice 92 1 #[(0, Operand.tmp 42)], type := 92, pos := "frame.go:119", after := #[{ on := 5, ground := Ground.data }], guard := none }) rfl (fun KK hK => ?_) AllReadyH.nil
    rw [if_pos (by rfl)]
    refine wp_one_rec 92 96 (.tmp 42) rfl (nmS kn) ((at0 : Nat) : Int) rfl Try.underlying92 rec96 ?_
    intro Z4c hg hy hz
    replace K := Lib.hid (K.out.trans (hy.mono K.out.size))
    replace LR := Lib.hid (row_under2 LR.out hy)
    replace HX := Lib.hid (HX.out.below hy HX.out.lt)
    clear hy hz
    have HG4 := Lib.hid hg
    clear hg
    refine hK.out _ _ HX.out (fun _ => ?_)
    clear hK KK
    try simp only [Act.put, List.setIfInBounds_toArray, List.set_cons_zero, List.set_cons_succ]
    refine wpAnyH_ready (rs := [7]) (by kernel_rfl) (by simp) ?_
    refine AllReadyH.cons (o := { dst := some 44, op := Op.call { callee := Callee.builtin Builtin.append, args := #[Operand.tmp 37, Operand.tmp 43], argTypes := #[92, 92] }, type := 92, pos := "frame.go:119", after := #[{ on := 0, ground := Ground.data }, { on := 6, ground := Ground.data }, { on := 2, ground := Ground.chain }], guard := none }) rfl (fun KK hK => ?_) AllReadyH.nil
    rw [if_pos (by rfl)]
    refine wp_app_rec (.tmp 37) (.tmp 43) 92 96 rfl Try.underlying92 rec96 w.heap.size x3 (1 + 1) ([.string { data := #[101, 116, 104, 101, 114] }, .int .i64 0] ++ [.string { data := #[118, 108, 97, 110] }, .int .i64 14]) rfl LR.out Z4b.heap.size (nmS kn) ((at0 : Nat) : Int) rfl HG4.out (by omega) K.out.size ?_
    intro x4 Z4d oz gz
    replace K := Lib.hid (below_grown K.out LR.out (Nat.le_refl _) K.out.size gz)
    replace HX := Lib.hid (blk_grown HX.out LR.out (by decide) gz)
    replace LR := Lib.hid oz
    clear oz gz HG4
    refine hK.out _ _ HX.out (fun _ => ?_)
    clear hK KK
    try simp only [Act.put, List.setIfInBounds_toArray, List.set_cons_zero, List.set_cons_succ]
    refine wpAnyH_take (i := 8) (oi := { dst := some 6, op := Op.assign (Operand.tmp 44), type := 92, pos := "frame.go:119", after := #[{ on := 7, ground := Ground.data }, { on := 7, ground := Ground.chain }, { on := 0, ground := Ground.phase }, { on := 1, ground := Ground.phase }, { on := 2, ground := Ground.phase }, { on := 3, ground := Ground.phase }, { on := 4, ground := Ground.phase }, { on := 5, ground := Ground.phase }, { on := 6, ground := Ground.phase }, { on := 7, ground := Ground.phase }], guard := none }) (v := ?_) rfl (by kernel_rfl) (by kernel_rfl) (by kernel_rfl) (fun _ _ _ h => h) (Or.inl ⟨by rfl, ?_⟩) HX.out ?_
    rotate_left
    · (intro w1 hS; clear hS; go_simp; try with_reducible rfl)
    simp only [Act.put, List.setIfInBounds_toArray, List.set_cons_zero, List.set_cons_succ]
    refine wpAnyH_done (by kernel_rfl) ?_ _
    have L2 : (loadVar 31 ⟨V6.heap.size, 0, none⟩).run Try.prog Z4d = .ok (.agg PV) Z4d := run_blk_load (P := Try.prog) 31 (V6.heap.size) _ HX.out Try.underlying31 rfl ZPV.out
    replace L2 := Lib.hid L2
    go_wp2_with (((with_reducible refine wpList_load_want (op := ⟨some 47, .load 31 (.tmp 7), _, _, _, _⟩) ?wg2 31 (.tmp 7) ?wo2 ⟨V6.heap.size, 0, none⟩ ?wx2 (.agg PV) L2.out ?_); (case wg2 => rfl); (case wo2 => rfl); (case wx2 => rfl)))
    clear L2
    refine (CS3.out _ (HR.out.below K.out)).mono ?_
    rintro e V8 ⟨rfl, hy⟩
    replace K := Lib.hid (K.out.trans (hy.mono K.out.size))
    replace LR := Lib.hid (row_under2 LR.out hy)
    replace HX := Lib.hid (HX.out.below hy HX.out.lt)
    clear hy
    by_cases hr2 : r2 = 0
    case neg =>
      have e : LS = LL ++ [(kn, at0)] := by rw [HLS3.out, if_pos hr2]
      subst e
      have g0 : ((r2 : Int) != 0) = true := by simp; omega
      clear hr2
      go_wp2
      go_ret
      exact ⟨_, rfl, by rw [HLL.out]; exact LR.out, K.out⟩
    have e : LS = LL ++ [(kn, at0)] ++ [(kp, sg)] := by rw [HLS3.out, if_neg (fun h => h hr2)]
    subst e hr2
    clear HLS3 CS3
    go_wp2_with fail
    refine wp_region_held (S := (fun w' : World => Blk w' (V6.heap.size) 31 PV)) (by kernel_rfl) ?_
    change wpAnyH _ _ _ _ _ _ _ _ V8.drew
    have hy : Below V8.heap.size V8 V8.drew := (Below.refl _ _).drew
    replace K := Lib.hid (K.out.trans (hy.mono K.out.size))
    replace LR := Lib.hid (row_under2 LR.out hy)
    replace HX := Lib.hid (HX.out.below hy HX.out.lt)
    clear hy
    generalize V8.drew = Z5a at *
    refine wpAnyH_take (i := 0) (oi := { dst := some 54, op := Op.move (Operand.tmp 6), type := 92, pos := "frame.go:123", after := #[], guard := none }) (v := ?_) rfl (by kernel_rfl) (by kernel_rfl) (by kernel_rfl) (fun _ _ _ h => h) (Or.inl ⟨by rfl, ?_⟩) HX.out ?_
    rotate_left
    · (intro w1 hS; clear hS; go_simp; try with_reducible rfl)
    simp only [Act.put, List.setIfInBounds_toArray, List.set_cons_zero, List.set_cons_succ]
    refine wpAnyH_take (i := 1) (oi := { dst := some 55, op := Op.load 31 (Operand.tmp 7), type := 31, pos := "frame.go:123", after := #[], guard := none }) (v := .agg PV) rfl (by kernel_rfl) (by kernel_rfl) (by kernel_rfl) (fun _ _ _ h => h) (Or.inl ⟨by rfl, ?_⟩) HX.out ?_
    · (intro w1 hS; exact exec_load 31 (.tmp 7) rfl _ rfl _ (run_blk_load (P := Try.prog) 31 (V6.heap.size) _ hS Try.underlying31 rfl ZPV.out))
    simp only [Act.put, List.setIfInBounds_toArray, List.set_cons_zero, List.set_cons_succ]
    refine wpAnyH_take (i := 3) (oi := { dst := some 57, op := Op.fieldAddr 31 (Operand.tmp 7) 2, type := 0, pos := "frame.go:123", after := #[], guard := none }) (v := ?_) rfl (by kernel_rfl) (by kernel_rfl) (by kernel_rfl) (fun _ _ _ h => h) (Or.inl ⟨by rfl, ?_⟩) HX.out ?_
    rotate_left
    · (intro w1 hS; clear hS; go_simp; try with_reducible rfl)
    simp only [Act.put, List.setIfInBounds_toArray, List.set_cons_zero, List.set_cons_succ]
    refine wpAnyH_take (i := 4) (oi := { dst := some 58, op := Op.load 3 (Operand.tmp 57), type := 3, pos := "frame.go:123", after := #[{ on := 3, ground := Ground.data }], guard := none }) (v := ?_) rfl (by kernel_rfl) (by kernel_rfl) (by kernel_rfl) (fun _ _ _ h => h) (Or.inl ⟨by rfl, ?_⟩) HX.out ?_
    rotate_left
    · (intro w1 hS; have q := (hS.cell 2).trans C2.out; clear hS; go_simp; try with_reducible rfl)
    simp only [Act.put, List.setIfInBounds_toArray, List.set_cons_zero, List.set_cons_succ]
    refine wpAnyH_ready (rs := [2]) (by kernel_rfl) (by simp) ?_
    refine AllReadyH.cons (o := { dst := some 56, op := Op.call { callee := Callee.value (Operand.func 66), args := #[Operand.tmp 55], argTypes := #[31] }, type := 9, pos := "frame.go:123", after := #[{ on := 1, ground := Ground.data }], guard := none }) rfl (fun KK hK => ?_) AllReadyH.nil
    go_simp
    refine (SN.out Z5a).mono ?_
    rintro e Z5b ⟨rfl, hy⟩
    replace K := Lib.hid (K.out.trans (hy.mono K.out.size))
    replace LR := Lib.hid (row_under2 LR.out hy)
    replace HX := Lib.hid (HX.out.below hy HX.out.lt)
    clear hy
    refine hK.out _ _ HX.out (fun _ => ?_)
    clear hK KK
    try simp only [Act.put, List.setIfInBounds_toArray, List.set_cons_zero, List.set_cons_succ]
    refine wpAnyH_take (i := 5) (oi := { dst := some 59, op := Op.build 96 #[(0, Operand.tmp 56), (1, Operand.tmp 58)], type := 96, pos := "frame.go:123", after := #[{ on := 2, ground := Ground.data }, { on := 4, ground := Ground.data }], guard := none }) (v := .agg #[.string (nmS kp), .int .i64 ((sg : Nat) : Int)]) rfl (by kernel_rfl) (by kernel_rfl) (by kernel_rfl) (fun _ _ _ h => h) (Or.inl ⟨by rfl, ?_⟩) HX.out ?_
    · (intro w1 hS; exact exec_build 96 _ rfl #[(0, .string (nmS kp)), (1, .int .i64 ((sg : Nat) : Int))] (by kernel_rfl) #[.string (nmS kp), .int .i64 ((sg : Nat) : Int)] (built96 _ _))
    simp only [Act.put, List.setIfInBounds_toArray, List.set_cons_zero, List.set_cons_succ]
    refine wpAnyH_ready (rs := [6]) (by kernel_rfl) (by simp) ?_
    refine AllReadyH.cons (o := { dst := some 60, op := Op.buildSlice 92 1 #[(0, Operand.tmp 59)], type := 92, pos := "frame.go:123", after := #[{ on := 5, ground := Ground.data }], guard := none }) rfl (fun KK hK => ?_) AllReadyH.nil
    rw [if_pos (by rfl)]
    refine wp_one_rec 92 96 (.tmp 59) rfl (nmS kp) ((sg : Nat) : Int) rfl Try.underlying92 rec96 ?_
    intro Z5c hg hy hz
    replace K := Lib.hid (K.out.trans (hy.mono K.out.size))
    replace LR := Lib.hid (row_under2 LR.out hy)
    replace HX := Lib.hid (HX.out.below hy HX.out.lt)
    clear hy hz
    have HG5 := Lib.hid hg
    clear hg
    refine hK.out _ _ HX.out (fun _ => ?_)
    clear hK KK
    try simp only [Act.put, List.setIfInBounds_toArray, List.set_cons_zero, List.set_cons_succ]
    refine wpAnyH_ready (rs := [7]) (by kernel_rfl) (by simp) ?_
    refine AllReadyH.cons (o := { dst := some 61, op := Op.call { callee := Callee.builtin Builtin.append, args := #[Operand.tmp 54, Operand.tmp 60], argTypes := #[92, 92] }, type := 92, pos := "frame.go:123", after := #[{ on := 0, ground := Ground.data }, { on := 6, ground := Ground.data }, { on := 2, ground := Ground.chain }], guard := none }) rfl (fun KK hK => ?_) AllReadyH.nil
    rw [if_pos (by rfl)]
    refine wp_app_rec (.tmp 54) (.tmp 60) 92 96 rfl Try.underlying92 rec96 w.heap.size x4 ((1 + 1) + 1) (([.string { data := #[101, 116, 104, 101, 114] }, .int .i64 0] ++ [.string { data := #[118, 108, 97, 110] }, .int .i64 14]) ++ [.string (nmS kn), .int .i64 ((at0 : Nat) : Int)]) rfl LR.out Z5b.heap.size (nmS kp) ((sg : Nat) : Int) rfl HG5.out (by omega) K.out.size ?_
    intro x5 Z5d oz gz
    replace K := Lib.hid (below_grown K.out LR.out (Nat.le_refl _) K.out.size gz)
    replace HX := Lib.hid (blk_grown HX.out LR.out (by decide) gz)
    replace LR := Lib.hid oz
    clear oz gz HG5
    refine hK.out _ _ HX.out (fun _ => ?_)
    clear hK KK
    try simp only [Act.put, List.setIfInBounds_toArray, List.set_cons_zero, List.set_cons_succ]
    refine wpAnyH_take (i := 8) (oi := { dst := some 2, op := Op.assign (Operand.tmp 61), type := 92, pos := "frame.go:123", after := #[{ on := 7, ground := Ground.data }, { on := 7, ground := Ground.chain }, { on := 0, ground := Ground.phase }, { on := 1, ground := Ground.phase }, { on := 2, ground := Ground.phase }, { on := 3, ground := Ground.phase }, { on := 4, ground := Ground.phase }, { on := 5, ground := Ground.phase }, { on := 6, ground := Ground.phase }, { on := 7, ground := Ground.phase }], guard := none }) (v := ?_) rfl (by kernel_rfl) (by kernel_rfl) (by kernel_rfl) (fun _ _ _ h => h) (Or.inl ⟨by rfl, ?_⟩) HX.out ?_
    rotate_left
    · (intro w1 hS; clear hS; go_simp; try with_reducible rfl)
    simp only [Act.put, List.setIfInBounds_toArray, List.set_cons_zero, List.set_cons_succ]
    refine wpAnyH_done (by kernel_rfl) ?_ _
    go_wp2
    go_ret
    exact ⟨_, rfl, by rw [HLL.out]; exact LR.out, K.out⟩
  case neg =>
    have HLL := Lib.hid (show LL = [(0, 0)] by rw [L0.out, if_neg htg])
    have gd : decide (u2 zs 12 = 33024) = false := decide_eq_false htg
    clear L0 htg
    generalize decide (u2 zs 12 = 33024) = dd at *
    subst gd
    by_cases hr0 : r = 0
    case neg =>
      have e : LS = LL := by rw [HLS1.out, if_pos hr0]
      subst e
      have g0 : ((r : Int) != 0) = true := by simp; omega
      clear hr0
      go_wp2
      go_ret
      exact ⟨_, rfl, by rw [HLL.out]; exact LR.out, K.out⟩
    have HLS2 := Lib.hid (HLS1.out.trans (if_neg (fun h => h hr0)))
    have CP2 := Lib.hid (CP.out hr0)
    have CS2 := Lib.hid (CS.out hr0)
    have hk := HK2.out hr0
    clear CP CS HLS1 HK2
    subst hr0 hk
    generalize (if six then 34525 else 2048 : Nat) = kind at *
    go_wp2_with fail
    refine (CP2.out _ (HR.out.below K.out)).mono ?_
    rintro e V4 ⟨rfl, hy⟩
    replace K := Lib.hid (K.out.trans (hy.mono K.out.size))
    replace LR := Lib.hid (row_under2 LR.out hy)
    clear hy
    go_wp2_with (((with_reducible refine wpList_blk_store (op := ⟨none, .store 31 (.tmp 7) (.tmp 32), _, _, _, _⟩) ?sg3 31 (.tmp 7) (.tmp 32) ?so3 (V4.heap.size) PV ?sx3 ?sy3 (Blk.new V4 31 #[Value.bool false, .int .i64 0, .int .i64 0, .int .i64 0, .int .u8 0, .bool false, .int .u8 0, .int .u8 0, .int .u8 0, .int .u8 0, .int .u8 0, .int .u8 0, .int .u8 0, .int .u8 0, .int .u8 0, .int .u8 0, .int .u8 0, .int .u8 0, .int .u8 0, .int .u8 0, .int .u8 0, .int .u8 0, .bool false, .int .u8 0, .int .u8 0, .int .u8 0, .int .u8 0, .int .u8 0, .int .u8 0, .int .u8 0, .int .u8 0, .int .u8 0, .int .u8 0, .int .u8 0, .int .u8 0, .int .u8 0, .int .u8 0, .int .u8 0, .int .u8 0, .int .u16 0, .int .u16 0, .int .u8 0]) YPV.out ZPV.out APV.out ?_); (case sg3 => rfl); (case so3 => rfl); (case sx3 => rfl); (case sy3 => rfl)))
    intro V5 hA hF hB
    have hy := ((Below.refl V4.heap.size V4).alloc (Nat.le_refl _) (.cells #[Value.bool false, .int .i64 0, .int .i64 0, .int .i64 0, .int .u8 0, .bool false, .int .u8 0, .int .u8 0, .int .u8 0, .int .u8 0, .int .u8 0, .int .u8 0, .int .u8 0, .int .u8 0, .int .u8 0, .int .u8 0, .int .u8 0, .int .u8 0, .int .u8 0, .int .u8 0, .int .u8 0, .int .u8 0, .bool false, .int .u8 0, .int .u8 0, .int .u8 0, .int .u8 0, .int .u8 0, .int .u8 0, .int .u8 0, .int .u8 0, .int .u8 0, .int .u8 0, .int .u8 0, .int .u8 0, .int .u8 0, .int .u8 0, .int .u8 0, .int .u8 0, .int .u16 0, .int .u16 0, .int .u8 0] 31)).trans (hB _ (Nat.le_refl _))
    replace K := Lib.hid (K.out.trans (hy.mono K.out.size))
    replace LR := Lib.hid (row_under2 LR.out hy)
    have HX := Lib.hid hA
    clear hA hF hB hy
    by_cases hr1 : r1 = 0
    case neg =>
      have e : LS = LL := by rw [HLS2.out, if_pos hr1]
      subst e
      have g0 : ((r1 : Int) != 0) = true := by simp; omega
      clear hr1
      go_wp2
      go_ret
      exact ⟨_, rfl, by rw [HLL.out]; exact LR.out, K.out⟩
    have HLS3 := Lib.hid (HLS2.out.trans (if_neg (fun h => h hr1)))
    have CS3 := Lib.hid (CS2.out hr1)
    have hPV := PVE.out hr1
    obtain ⟨q0, q1, q2, -, q4⟩ := vget six at0 (at0 + sS) (at0 + sL) 0 pp 0 0 SA SB
    rw [← hPV] at q0 q1 q2 q4
    have C1 := Lib.hid q1
    have C2 := Lib.hid q2
    have NN := Lib.hid (fun W => netName_any PV six W SPV.out q0)
    have SN := Lib.hid (fun W => segName_any PV pp W SPV.out q4)
    clear q0 q1 q2 q4 hPV PVE CS2 HLS2 CP2
    subst hr1
    generalize hsx : (if six then 3 else 2 : Nat) = kn at *
    generalize hpx : (if pp = 17 then 5 else 4 : Nat) = kp at *
    generalize at0 + sS = sg at *
    clear hsx hpx
    go_wp2_with fail
    refine wp_region_held (S := (fun w' : World => Blk w' (V4.heap.size) 31 PV)) (by kernel_rfl) ?_
    change wpAnyH _ _ _ _ _ _ _ _ V5.drew
    have hy : Below V5.heap.size V5 V5.drew := (Below.refl _ _).drew
    replace K := Lib.hid (K.out.trans (hy.mono K.out.size))
    replace LR := Lib.hid (row_under2 LR.out hy)
    replace HX := Lib.hid (HX.out.below hy HX.out.lt)
    clear hy
    generalize V5.drew = Z6a at *
    refine wpAnyH_take (i := 0) (oi := { dst := some 37, op := Op.move (Operand.tmp 6), type := 92, pos := "frame.go:119", after := #[], guard := none }) (v := ?_) rfl (by kernel_rfl) (by kernel_rfl) (by kernel_rfl) (fun _ _ _ h => h) (Or.inl ⟨by rfl, ?_⟩) HX.out ?_
    rotate_left
    · (intro w1 hS; clear hS; go_simp; try with_reducible rfl)
    simp only [Act.put, List.setIfInBounds_toArray, List.set_cons_zero, List.set_cons_succ]
    refine wpAnyH_take (i := 1) (oi := { dst := some 38, op := Op.load 31 (Operand.tmp 7), type := 31, pos := "frame.go:119", after := #[], guard := none }) (v := .agg PV) rfl (by kernel_rfl) (by kernel_rfl) (by kernel_rfl) (fun _ _ _ h => h) (Or.inl ⟨by rfl, ?_⟩) HX.out ?_
    · (intro w1 hS; exact exec_load 31 (.tmp 7) rfl _ rfl _ (run_blk_load (P := Try.prog) 31 (V4.heap.size) _ hS Try.underlying31 rfl ZPV.out))
    simp only [Act.put, List.setIfInBounds_toArray, List.set_cons_zero, List.set_cons_succ]
    refine wpAnyH_take (i := 3) (oi := { dst := some 40, op := Op.fieldAddr 31 (Operand.tmp 7) 1, type := 0, pos := "frame.go:119", after := #[], guard := none }) (v := ?_) rfl (by kernel_rfl) (by kernel_rfl) (by kernel_rfl) (fun _ _ _ h => h) (Or.inl ⟨by rfl, ?_⟩) HX.out ?_
    rotate_left
    · (intro w1 hS; clear hS; go_simp; try with_reducible rfl)
    simp only [Act.put, List.setIfInBounds_toArray, List.set_cons_zero, List.set_cons_succ]
    refine wpAnyH_take (i := 4) (oi := { dst := some 41, op := Op.load 3 (Operand.tmp 40), type := 3, pos := "frame.go:119", after := #[{ on := 3, ground := Ground.data }], guard := none }) (v := ?_) rfl (by kernel_rfl) (by kernel_rfl) (by kernel_rfl) (fun _ _ _ h => h) (Or.inl ⟨by rfl, ?_⟩) HX.out ?_
    rotate_left
    · (intro w1 hS; have q := (hS.cell 1).trans C1.out; clear hS; go_simp; try with_reducible rfl)
    simp only [Act.put, List.setIfInBounds_toArray, List.set_cons_zero, List.set_cons_succ]
    refine wpAnyH_ready (rs := [2]) (by kernel_rfl) (by simp) ?_
    refine AllReadyH.cons (o := { dst := some 39, op := Op.call { callee := Callee.value (Operand.func 65), args := #[Operand.tmp 38], argTypes := #[31] }, type := 9, pos := "frame.go:119", after := #[{ on := 1, ground := Ground.data }], guard := none }) rfl (fun KK hK => ?_) AllReadyH.nil
    go_simp
    refine (NN.out Z6a).mono ?_
    rintro e Z6b ⟨rfl, hy⟩
    replace K := Lib.hid (K.out.trans (hy.mono K.out.size))
    replace LR := Lib.hid (row_under2 LR.out hy)
    replace HX := Lib.hid (HX.out.below hy HX.out.lt)
    clear hy
    refine hK.out _ _ HX.out (fun _ => ?_)
    clear hK KK
    try simp only [Act.put, List.setIfInBounds_toArray, List.set_cons_zero, List.set_cons_succ]
    refine wpAnyH_take (i := 5) (oi := { dst := some 42, op := Op.build 96 #[(0, Operand.tmp 39), (1, Operand.tmp 41)], type := 96, pos := "frame.go:119", after := #[{ on := 2, ground := Ground.data }, { on := 4, ground := Ground.data }], guard := none }) (v := .agg #[.string (nmS kn), .int .i64 ((at0 : Nat) : Int)]) rfl (by kernel_rfl) (by kernel_rfl) (by kernel_rfl) (fun _ _ _ h => h) (Or.inl ⟨by rfl, ?_⟩) HX.out ?_
    · (intro w1 hS; exact exec_build 96 _ rfl #[(0, .string (nmS kn)), (1, .int .i64 ((at0 : Nat) : Int))] (by kernel_rfl) #[.string (nmS kn), .int .i64 ((at0 : Nat) : Int)] (built96 _ _))
    simp only [Act.put, List.setIfInBounds_toArray, List.set_cons_zero, List.set_cons_succ]
    refine wpAnyH_ready (rs := [6]) (by kernel_rfl) (by simp) ?_
    refine AllReadyH.cons (o := { dst := some 43, op := Op.buildSlice 92 1 #[(0, Operand.tmp 42)], type := 92, pos := "frame.go:119", after := #[{ on := 5, ground := Ground.data }], guard := none }) rfl (fun KK hK => ?_) AllReadyH.nil
    rw [if_pos (by rfl)]
    refine wp_one_rec 92 96 (.tmp 42) rfl (nmS kn) ((at0 : Nat) : Int) rfl Try.underlying92 rec96 ?_
    intro Z6c hg hy hz
    replace K := Lib.hid (K.out.trans (hy.mono K.out.size))
    replace LR := Lib.hid (row_under2 LR.out hy)
    replace HX := Lib.hid (HX.out.below hy HX.out.lt)
    clear hy hz
    have HG6 := Lib.hid hg
    clear hg
    refine hK.out _ _ HX.out (fun _ => ?_)
    clear hK KK
    try simp only [Act.put, List.setIfInBounds_toArray, List.set_cons_zero, List.set_cons_succ]
    refine wpAnyH_ready (rs := [7]) (by kernel_rfl) (by simp) ?_
    refine AllReadyH.cons (o := { dst := some 44, op := Op.call { callee := Callee.builtin Builtin.append, args := #[Operand.tmp 37, Operand.tmp 43], argTypes := #[92, 92] }, type := 92, pos := "frame.go:119", after := #[{ on := 0, ground := Ground.data }, { on := 6, ground := Ground.data }, { on := 2, ground := Ground.chain }], guard := none }) rfl (fun KK hK => ?_) AllReadyH.nil
    rw [if_pos (by rfl)]
    refine wp_app_rec (.tmp 37) (.tmp 43) 92 96 rfl Try.underlying92 rec96 w.heap.size (.slice (some ⟨w.heap.size, 0, none⟩) 1 1) 1 [.string { data := #[101, 116, 104, 101, 114] }, .int .i64 0] rfl LR.out Z6b.heap.size (nmS kn) ((at0 : Nat) : Int) rfl HG6.out (by omega) K.out.size ?_
    intro x6 Z6d oz gz
    replace K := Lib.hid (below_grown K.out LR.out (Nat.le_refl _) K.out.size gz)
    replace HX := Lib.hid (blk_grown HX.out LR.out (by decide) gz)
    replace LR := Lib.hid oz
    clear oz gz HG6
    refine hK.out _ _ HX.out (fun _ => ?_)
    clear hK KK
    try simp only [Act.put, List.setIfInBounds_toArray, List.set_cons_zero, List.set_cons_succ]
    refine wpAnyH_take (i := 8) (oi := { dst := some 6, op := Op.assign (Operand.tmp 44), type := 92, pos := "frame.go:119", after := #[{ on := 7, ground := Ground.data }, { on := 7, ground := Ground.chain }, { on := 0, ground := Ground.phase }, { on := 1, ground := Ground.phase }, { on := 2, ground := Ground.phase }, { on := 3, ground := Ground.phase }, { on := 4, ground := Ground.phase }, { on := 5, ground := Ground.phase }, { on := 6, ground := Ground.phase }, { on := 7, ground := Ground.phase }], guard := none }) (v := ?_) rfl (by kernel_rfl) (by kernel_rfl) (by kernel_rfl) (fun _ _ _ h => h) (Or.inl ⟨by rfl, ?_⟩) HX.out ?_
    rotate_left
    · (intro w1 hS; clear hS; go_simp; try with_reducible rfl)
    simp only [Act.put, List.setIfInBounds_toArray, List.set_cons_zero, List.set_cons_succ]
    refine wpAnyH_done (by kernel_rfl) ?_ _
    have L4 : (loadVar 31 ⟨V4.heap.size, 0, none⟩).run Try.prog Z6d = .ok (.agg PV) Z6d := run_blk_load (P := Try.prog) 31 (V4.heap.size) _ HX.out Try.underlying31 rfl ZPV.out
    replace L4 := Lib.hid L4
    go_wp2_with (((with_reducible refine wpList_load_want (op := ⟨some 47, .load 31 (.tmp 7), _, _, _, _⟩) ?wg4 31 (.tmp 7) ?wo4 ⟨V4.heap.size, 0, none⟩ ?wx4 (.agg PV) L4.out ?_); (case wg4 => rfl); (case wo4 => rfl); (case wx4 => rfl)))
    clear L4
    refine (CS3.out _ (HR.out.below K.out)).mono ?_
    rintro e V6 ⟨rfl, hy⟩
    replace K := Lib.hid (K.out.trans (hy.mono K.out.size))
    replace LR := Lib.hid (row_under2 LR.out hy)
    replace HX := Lib.hid (HX.out.below hy HX.out.lt)
    clear hy
    by_cases hr2 : r2 = 0
    case neg =>
      have e : LS = LL ++ [(kn, at0)] := by rw [HLS3.out, if_pos hr2]
      subst e
      have g0 : ((r2 : Int) != 0) = true := by simp; omega
      clear hr2
      go_wp2
      go_ret
      exact ⟨_, rfl, by rw [HLL.out]; exact LR.out, K.out⟩
    have e : LS = LL ++ [(kn, at0)] ++ [(kp, sg)] := by rw [HLS3.out, if_neg (fun h => h hr2)]
    subst e hr2
    clear HLS3 CS3
    go_wp2_with fail
    refine wp_region_held (S := (fun w' : World => Blk w' (V4.heap.size) 31 PV)) (by kernel_rfl) ?_
    change wpAnyH _ _ _ _ _ _ _ _ V6.drew
    have hy : Below V6.heap.size V6 V6.drew := (Below.refl _ _).drew
    replace K := Lib.hid (K.out.trans (hy.mono K.out.size))
    replace LR := Lib.hid (row_under2 LR.out hy)
    replace HX := Lib.hid (HX.out.below hy HX.out.lt)
    clear hy
    generalize V6.drew = Z7a at *
    refine wpAnyH_take (i := 0) (oi := { dst := some 54, op := Op.move (Operand.tmp 6), type := 92, pos := "frame.go:123", after := #[], guard := none }) (v := ?_) rfl (by kernel_rfl) (by kernel_rfl) (by kernel_rfl) (fun _ _ _ h => h) (Or.inl ⟨by rfl, ?_⟩) HX.out ?_
    rotate_left
    · (intro w1 hS; clear hS; go_simp; try with_reducible rfl)
    simp only [Act.put, List.setIfInBounds_toArray, List.set_cons_zero, List.set_cons_succ]
    refine wpAnyH_take (i := 1) (oi := { dst := some 55, op := Op.load 31 (Operand.tmp 7), type := 31, pos := "frame.go:123", after := #[], guard := none }) (v := .agg PV) rfl (by kernel_rfl) (by kernel_rfl) (by kernel_rfl) (fun _ _ _ h => h) (Or.inl ⟨by rfl, ?_⟩) HX.out ?_
    · (intro w1 hS; exact exec_load 31 (.tmp 7) rfl _ rfl _ (run_blk_load (P := Try.prog) 31 (V4.heap.size) _ hS Try.underlying31 rfl ZPV.out))
    simp only [Act.put, List.setIfInBounds_toArray, List.set_cons_zero, List.set_cons_succ]
    refine wpAnyH_take (i := 3) (oi := { dst := some 57, op := Op.fieldAddr 31 (Operand.tmp 7) 2, type := 0, pos := "frame.go:123", after := #[], guard := none }) (v := ?_) rfl (by kernel_rfl) (by kernel_rfl) (by kernel_rfl) (fun _ _ _ h => h) (Or.inl ⟨by rfl, ?_⟩) HX.out ?_
    rotate_left
    · (intro w1 hS; clear hS; go_simp; try with_reducible rfl)
    simp only [Act.put, List.setIfInBounds_toArray, List.set_cons_zero, List.set_cons_succ]
    refine wpAnyH_take (i := 4) (oi := { dst := some 58, op := Op.load 3 (Operand.tmp 57), type := 3, pos := "frame.go:123", after := #[{ on := 3, ground := Ground.data }], guard := none }) (v := ?_) rfl (by kernel_rfl) (by kernel_rfl) (by kernel_rfl) (fun _ _ _ h => h) (Or.inl ⟨by rfl, ?_⟩) HX.out ?_
    rotate_left
    · (intro w1 hS; have q := (hS.cell 2).trans C2.out; clear hS; go_simp; try with_reducible rfl)
    simp only [Act.put, List.setIfInBounds_toArray, List.set_cons_zero, List.set_cons_succ]
    refine wpAnyH_ready (rs := [2]) (by kernel_rfl) (by simp) ?_
    refine AllReadyH.cons (o := { dst := some 56, op := Op.call { callee := Callee.value (Operand.func 66), args := #[Operand.tmp 55], argTypes := #[31] }, type := 9, pos := "frame.go:123", after := #[{ on := 1, ground := Ground.data }], guard := none }) rfl (fun KK hK => ?_) AllReadyH.nil
    go_simp
    refine (SN.out Z7a).mono ?_
    rintro e Z7b ⟨rfl, hy⟩
    replace K := Lib.hid (K.out.trans (hy.mono K.out.size))
    replace LR := Lib.hid (row_under2 LR.out hy)
    replace HX := Lib.hid (HX.out.below hy HX.out.lt)
    clear hy
    refine hK.out _ _ HX.out (fun _ => ?_)
    clear hK KK
    try simp only [Act.put, List.setIfInBounds_toArray, List.set_cons_zero, List.set_cons_succ]
    refine wpAnyH_take (i := 5) (oi := { dst := some 59, op := Op.build 96 #[(0, Operand.tmp 56), (1, Operand.tmp 58)], type := 96, pos := "frame.go:123", after := #[{ on := 2, ground := Ground.data }, { on := 4, ground := Ground.data }], guard := none }) (v := .agg #[.string (nmS kp), .int .i64 ((sg : Nat) : Int)]) rfl (by kernel_rfl) (by kernel_rfl) (by kernel_rfl) (fun _ _ _ h => h) (Or.inl ⟨by rfl, ?_⟩) HX.out ?_
    · (intro w1 hS; exact exec_build 96 _ rfl #[(0, .string (nmS kp)), (1, .int .i64 ((sg : Nat) : Int))] (by kernel_rfl) #[.string (nmS kp), .int .i64 ((sg : Nat) : Int)] (built96 _ _))
    simp only [Act.put, List.setIfInBounds_toArray, List.set_cons_zero, List.set_cons_succ]
    refine wpAnyH_ready (rs := [6]) (by kernel_rfl) (by simp) ?_
    refine AllReadyH.cons (o := { dst := some 60, op := Op.buildSlice 92 1 #[(0, Operand.tmp 59)], type := 92, pos := "frame.go:123", after := #[{ on := 5, ground := Ground.data }], guard := none }) rfl (fun KK hK => ?_) AllReadyH.nil
    rw [if_pos (by rfl)]
    refine wp_one_rec 92 96 (.tmp 59) rfl (nmS kp) ((sg : Nat) : Int) rfl Try.underlying92 rec96 ?_
    intro Z7c hg hy hz
    replace K := Lib.hid (K.out.trans (hy.mono K.out.size))
    replace LR := Lib.hid (row_under2 LR.out hy)
    replace HX := Lib.hid (HX.out.below hy HX.out.lt)
    clear hy hz
    have HG7 := Lib.hid hg
    clear hg
    refine hK.out _ _ HX.out (fun _ => ?_)
    clear hK KK
    try simp only [Act.put, List.setIfInBounds_toArray, List.set_cons_zero, List.set_cons_succ]
    refine wpAnyH_ready (rs := [7]) (by kernel_rfl) (by simp) ?_
    refine AllReadyH.cons (o := { dst := some 61, op := Op.call { callee := Callee.builtin Builtin.append, args := #[Operand.tmp 54, Operand.tmp 60], argTypes := #[92, 92] }, type := 92, pos := "frame.go:123", after := #[{ on := 0, ground := Ground.data }, { on := 6, ground := Ground.data }, { on := 2, ground := Ground.chain }], guard := none }) rfl (fun KK hK => ?_) AllReadyH.nil
    rw [if_pos (by rfl)]
    refine wp_app_rec (.tmp 54) (.tmp 60) 92 96 rfl Try.underlying92 rec96 w.heap.size x6 (1 + 1) ([.string { data := #[101, 116, 104, 101, 114] }, .int .i64 0] ++ [.string (nmS kn), .int .i64 ((at0 : Nat) : Int)]) rfl LR.out Z7b.heap.size (nmS kp) ((sg : Nat) : Int) rfl HG7.out (by omega) K.out.size ?_
    intro x7 Z7d oz gz
    replace K := Lib.hid (below_grown K.out LR.out (Nat.le_refl _) K.out.size gz)
    replace HX := Lib.hid (blk_grown HX.out LR.out (by decide) gz)
    replace LR := Lib.hid oz
    clear oz gz HG7
    refine hK.out _ _ HX.out (fun _ => ?_)
    clear hK KK
    try simp only [Act.put, List.setIfInBounds_toArray, List.set_cons_zero, List.set_cons_succ]
    refine wpAnyH_take (i := 8) (oi := { dst := some 2, op := Op.assign (Operand.tmp 61), type := 92, pos := "frame.go:123", after := #[{ on := 7, ground := Ground.data }, { on := 7, ground := Ground.chain }, { on := 0, ground := Ground.phase }, { on := 1, ground := Ground.phase }, { on := 2, ground := Ground.phase }, { on := 3, ground := Ground.phase }, { on := 4, ground := Ground.phase }, { on := 5, ground := Ground.phase }, { on := 6, ground := Ground.phase }, { on := 7, ground := Ground.phase }], guard := none }) (v := ?_) rfl (by kernel_rfl) (by kernel_rfl) (by kernel_rfl) (fun _ _ _ h => h) (Or.inl ⟨by rfl, ?_⟩) HX.out ?_
    rotate_left
    · (intro w1 hS; clear hS; go_simp; try with_reducible rfl)
    simp only [Act.put, List.setIfInBounds_toArray, List.set_cons_zero, List.set_cons_succ]
    refine wpAnyH_done (by kernel_rfl) ?_ _
    go_wp2
    go_ret
    exact ⟨_, rfl, by rw [HLL.out]; exact LR.out, K.out⟩
end Go.Proofs.Ytopfbgoiehlhbaa

/- frame.Layers: the function value that it answers; the walk over it as a contract for range loops. -/
namespace Go.Proofs.Ytopfbgoiehlhbaa
open Go.RowKit Go.Shelf
attribute [local go_sem] Oper.semAt_some

theorem row_shape {w : World} {base : Nat} {e : TypeId} {v : Value} {k n : Nat} {xs : List Value} (h : w.ownsRow base e k v n xs) : ∃ a c, v = .slice a n c := by
  rcases h.2 with ⟨rfl, rfl⟩ | ⟨g, cap, cur, rfl, -⟩
  · exact ⟨_, _, rfl⟩
  · exact ⟨_, _, rfl⟩
set_option maxRecDepth 100000 in
set_option maxHeartbeats 1000000 in
theorem lay_any (v : Value) (zs : List Nat) (w : World) (hr : Rd w v (nus .u8 zs)) (hb : ∀ c ∈ zs, c < 256) :
    Calls Try.prog 29 #[v] w fun e w' => ∃ Be a c, e = .returned (.func (.func 49) #[] #[.pointer (some ⟨Be, 0, none⟩)]) ∧ w.heap.size ≤ Be ∧ Boxed w' Be 92 (.slice a (lys zs).length c) ∧ w'.ownsRow w.heap.size 96 2 (.slice a (lys zs).length c) (lys zs).length (lcells (lys zs)) ∧ Below w.heap.size w w' := by
  have CL := Lib.hid (layers_any v zs w hr hb)
  obtain ⟨a, cap, rfl, -, -⟩ := rd_shape hr
  clear hr hb
  generalize lys zs = L at *
  generalize zs.length = n at *
  go_enter Try.func29, Try.ntmps29
  go_wp2_with fail
  refine CL.out.mono ?_
  rintro e W1 ⟨x, rfl, hx, hy⟩
  obtain ⟨a1, c1, rfl⟩ := row_shape hx
  have K := Lib.hid hy
  have LR := Lib.hid hx
  clear hx hy CL
  go_wp2
  go_ret
  exact ⟨_, _, _, rfl, K.out.size, Boxed.new _ _ _, LR.out.alloc _, K.out.alloc K.out.size _⟩

theorem lcells_get (L : List (Nat × Nat)) (k : Nat) (h : k < L.length) : (lcells L)[k * 2]? = some (.string (nmS (L.getD k (0, 0)).1)) ∧ (lcells L)[k * 2 + 1]? = some (.int .i64 ((L.getD k (0, 0)).2 : Int)) := by
  induction L generalizing k with
  | nil => simp at h
  | cons x L ih =>
    cases k with
    | zero => exact ⟨rfl, rfl⟩
    | succ k =>
      have := ih k (by simpa using h)
      rw [show (k + 1) * 2 = k * 2 + 1 + 1 by omega]
      exact this
theorem own_cells {w : World} {base g n c : Nat} {e : TypeId} {xs : List Value} (h : w.ownsRow base e 2 (.slice (some ⟨g, 0, none⟩) n c) n xs) : ∀ j u, xs[j]? = some u → w.cell? ⟨g, j, none⟩ = some u := by
  intro j u hj
  have := h.cells (g := g) rfl j u hj
  rwa [Addr.add_lit, Nat.zero_add] at this
theorem take_snoc2 (L : List (Nat × Nat)) (k : Nat) (h : k < L.length) : L.take k ++ [L.getD k (0, 0)] = L.take (k + 1) := by
  rw [List.take_add_one, List.getD_eq_getElem?_getD, List.getElem?_eq_getElem h]; rfl
set_option maxRecDepth 100000 in
set_option maxHeartbeats 2000000 in
theorem it8_in (n : Nat) (hn : 1 ≤ n) (l Be lo hi len : Nat) (L : List (Nat × Nat)) (hL : len = L.length) (a : Option Addr) (c : Nat) (_hc : len ≤ c) (hl4 : len ≤ 4) (h1 : lo ≤ Be) (h2 : Be < hi) (J Jx : List (Nat × Nat) → World → Prop)
    (W : World) (hJ : AbidesFrom W.heap.size J) (hhi : hi ≤ W.heap.size)
    (hY : ∀ pre x W, J pre W → pre.length < len → YieldAt Fence.wide (n - 1) Try.prog l #[.string (nmS x.1), .int .i64 (x.2 : Int)] W fun e W' =>
      (e = .returned (.bool true) ∧ J (pre ++ [x]) W' ∧ Mid lo hi W W') ∨ (e = .returned (.bool false) ∧ Jx (pre ++ [x]) W'))
    (hBs : Boxed W Be 92 (.slice a len c)) (hg : (a = none ∧ len = 0) ∨ ∃ gg, a = some ⟨gg, 0, none⟩ ∧ lo ≤ gg ∧ gg < hi ∧ ∀ j u, (lcells L)[j]? = some u → W.cell? ⟨gg, j, none⟩ = some u) (h0 : J [] W) :
    CallsIn Fence.wide n Try.prog 49 #[.func (.yield l) #[] #[], .pointer (some ⟨Be, 0, none⟩)] W fun e W' => (∃ v, e = .returned v) ∧
      ((∃ ys, ys = L ∧ J ys W') ∨ (∃ pre, (∃ k, k ≤ len ∧ pre = L.take k) ∧ Jx pre W')) := by
  have HL := Lib.hid hL
  have HY := Lib.hid hY
  have HG := Lib.hid hg
  have HJ := Lib.hid hJ
  have HBS := Lib.hid hBs
  have hbc := hBs.cell
  clear hL hY hg hBs hJ
  refine callsIn_of_wp Try.func49 rfl trivial ?_ rfl
  simp only [Try.ntmps49, List.size_toArray, List.length_cons, List.length_nil, Nat.reduceAdd, Nat.reduceSub, Array.replicate_succ, Array.replicate_zero, List.push_toArray, List.append_toArray, List.nil_append, List.cons_append]
  gi_wp2
  gi_loopw [7] (fun i wr => ∃ k : Nat, k ≤ len ∧ i = .int .i64 (k : Int) ∧ J (L.take k) wr ∧ Mid lo hi W wr)
    (fun i _ => len - (intOf i).toNat)
  case atStart => exact ⟨0, Nat.zero_le _, rfl, h0, Mid.refl _ _ _⟩
  case round =>
    obtain ⟨k, hk, rfl, hJs, hnx⟩ := hrel
    have bx : Boxed wr Be 92 (.slice a len c) := (hnx.2 Be h1 h2).trans HBS.out
    have hbc2 := bx.cell
    by_cases hlt : k < len
    case neg =>
      obtain rfl : len = k := by omega
      clear hbc hlt
      gi_wp2
      go_end0
      exact ⟨⟨_, rfl⟩, .inl ⟨_, rfl, by rw [HL.out, List.take_length] at hJs; exact hJs⟩⟩
    obtain ⟨ -, h0'⟩ | ⟨gg, rfl, hg1, hg2, hgc⟩ := HG.out
    · omega
    obtain ⟨u0, u1⟩ := lcells_get L k (by rw [← HL.out]; exact hlt)
    have q0 := (World.cell?_of_block (a := ⟨gg, k * 2, none⟩) (hnx.2 gg hg1 hg2)).trans (hgc _ _ u0)
    have q1 := (World.cell?_of_block (a := ⟨gg, k * 2 + 1, none⟩) (hnx.2 gg hg1 hg2)).trans (hgc _ _ u1)
    have HTK := Lib.hid (take_snoc2 L k (by rw [← HL.out]; exact hlt))
    generalize L.getD k (0, 0) = y at *
    obtain ⟨fn, tmps, assign, body, hy, hR⟩ := HY.out _ y (wr.alloc (.cells #[.string (nmS y.1), .int .i64 (y.2 : Int)] 96)) (HJ.out _ _ _ none hJs (World.grownBy_alloc wr _ none) (fun r e => by cases e)) (by rw [List.length_take, ← HL.out]; omega)
    have hal : Mid lo hi wr (wr.alloc (.cells #[.string (nmS y.1), .int .i64 (y.2 : Int)] 96)) := Mid.below ((Below.refl _ wr).alloc (Nat.le_trans hhi hnx.1) _)
    clear hbc u0 u1 hgc hJs
    gi_wp2
    refine hR.mono ?_
    rintro e W3 (⟨rfl, hJ3, hk3⟩ | ⟨rfl, hJx3⟩)
    · gi_wp2
      go_roundw
      case rel => exact ⟨k + 1, by omega, by go_num, by rw [HTK.out] at hJ3; exact hJ3, (hnx.trans hal).trans hk3⟩
      case measure => simp [intOf]; omega
    · gi_wp2
      refine bodyPost_ret (results_none rfl _ _ _) rfl ?_
      exact ⟨⟨_, rfl⟩, .inr ⟨_, ⟨k + 1, by omega, HTK.out⟩, hJx3⟩⟩

theorem it8_stops (n : Nat) (hn : 1 ≤ n) (Be lo hi : Nat) (L : List (Nat × Nat)) (a : Option Addr) (c : Nat) (hl4 : L.length ≤ 4) (h1 : lo ≤ Be) (h2 : Be < hi) (w : World) (hw : hi ≤ w.heap.size)
    (hBs : Boxed w Be 92 (.slice a L.length c)) (hown : w.ownsRow lo 96 2 (.slice a L.length c) L.length (lcells L)) (hgh : ∀ gg, a = some ⟨gg, 0, none⟩ → gg < hi) :
    SeqStopsK Fence.wide n Try.prog 49 #[.pointer (some ⟨Be, 0, none⟩)] (fun x : Nat × Nat => #[Value.string (nmS x.1), Value.int .i64 (x.2 : Int)]) (Mid lo hi) (fun ys => ys = L) (fun pre => ∃ k, k ≤ L.length ∧ pre = L.take k) L.length w := fun l J Jx W hW hJ _ hY h0 => by
  have hs := hown.2
  have hcc : L.length ≤ c := by
    rcases hs with ⟨e, h⟩ | ⟨g, cap, cur, e, -, -, h, -⟩
    · omega
    · simp only [Value.slice.injEq] at e
      obtain ⟨-, -, rfl⟩ := e
      exact h
  refine it8_in n hn l Be lo hi L.length L rfl a c hcc hl4 h1 h2 J Jx W hJ (Nat.le_trans hw hW.size) hY ((hW.block Be (by omega)).trans hBs) ?_ h0
  rcases hs with ⟨e, h⟩ | ⟨g, cap, cur, e, hb, hg, -⟩
  · simp only [Value.slice.injEq] at e
    exact .inl ⟨e.1, h⟩
  · simp only [Value.slice.injEq] at e
    obtain ⟨rfl, -, rfl⟩ := e
    have hgl := hgh g rfl
    exact .inr ⟨g, rfl, hb, hgl, fun j u hj => (World.cell?_of_block (a := ⟨g, j, none⟩) (hW.block g (by omega))).trans (own_cells hown j u hj)⟩
end Go.Proofs.Ytopfbgoiehlhbaa

