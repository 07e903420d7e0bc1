/- Texts that the walks of this seat lean on, put together. -/
import Derived.StillTailTactics
import Derived.Deep.CutBlock
import Derived.Deep.DeepCutAuto
import Derived.LoopTactic
import Derived.Handy
import Derived.Test.YtcgaibkpdihncaaDoorTk
import Derived.Test.YtcgaibkpdihncaaDoorM21
import Derived.Test.YtcgaibkpdihncaaDoorM28
import Derived.Test.YtcgaibkpdihncaaDoorM34
namespace Go.Proofs.YtcgaibkpdihncaaDoor
open Go.RowKit Go.Lib
set_option maxRecDepth 100000 in
set_option maxHeartbeats 4000000 in
theorem bits_own (c : Cf) (hc : c.Fit) (hok : okC c = true) (k : Fl) (hk : k.Fit) (hv : vK k = true) (g : Nat) (w : World) (hF : Blk w g 60 (famC c)) :
    Calls Tryd.prog 37 #[.pointer (some ⟨g, 0, none⟩), .agg k.cs] w fun e w' => ∃ gB, e = .returned (.slice (some ⟨gB, 0, none⟩) c.hs.toNat c.hs.toNat) ∧ w.heap.size ≤ gB ∧ Blk w' gB 3 (nus .i64 (btL c k c.hs.toNat)).toArray ∧ Below w.heap.size w w' := by
  have K := Lib.hid (Below.refl w.heap.size w)
  have F := Lib.hid hF
  have CR := Lib.hid (fun W => row_yes k hk hv g W)
  have HL := Lib.hid (bK_ne hv)
  obtain ⟨b1, b2⟩ := okC_hs hok
  obtain ⟨b3, b4⟩ := okC_bl hok
  obtain ⟨n, hn⟩ : ∃ n : Nat, c.hs = (n : Int) := ⟨c.hs.toNat, by omega⟩
  obtain ⟨m, hm⟩ : ∃ m : Nat, c.bl = (m : Int) := ⟨c.bl.toNat, by omega⟩
  have hn1 : 1 ≤ n := by omega
  have hn2 : n ≤ 4 := by omega
  obtain ⟨f, hf⟩ : ∃ f : Nat → Nat, f = fun i => hsB c.sd (16 + i) (bK k) % m := ⟨_, rfl⟩
  have hr : btL c k c.hs.toNat = (List.range n).map f := by unfold btL hsh; rw [hn, hm, hf, Int.toNat_natCast, Int.toNat_natCast]
  have hcn : c.hs.toNat = n := by omega
  rw [hr, hcn]
  clear hcn
  have CB := Lib.hid (fun i (hi : i < n) v W h1 h2 => below_any c hc (16 + i) (by omega) m (by omega) (by omega) g v (bK k) (bK_lt k hk) W h1 h2)
  have hf2 : ∀ i, hsB c.sd (16 + i) (bK k) % m = f i := fun i => by rw [hf]
  simp only [hf2] at CB
  obtain ⟨-, -, -, -, f4, f5⟩ := fam_get tabs4 c tabs4_len
  have FB := Lib.hid f4
  have FN := Lib.hid f5
  change Hid ((famC c)[1028]? = _) at FB
  change Hid ((famC c)[1029]? = _) at FN
  rw [hm] at FB
  rw [hn] at FN
  obtain ⟨a0, a1, a18, a35, a36⟩ := fl_get k hk
  have G0 := Lib.hid a0
  have G1 := Lib.hid a1
  have G18 := Lib.hid a18
  have G35 := Lib.hid a35
  have G36 := Lib.hid a36
  have KP1 := Lib.hid (fl_src k)
  have KP2 := Lib.hid (fl_dst k hk)
  have IS := Lib.hid (fl_is k hk)
  have ID := Lib.hid (fl_id k hk)
  have IK := Lib.hid (fl_ik k hk)
  clear a0 a1 a18 a35 a36
  generalize bK k = bs at *
  generalize k.cs = kc at *
  generalize cellsA k.sv k.S = S at *
  generalize cellsA k.dv k.D = D at *
  generalize k.p = p at *
  generalize k.sv = sv at *
  generalize k.dv = dv at *
  generalize k.sp = sp at *
  generalize k.dp = dp at *
  generalize famC c = fc at *
  have qF : g < w.heap.size := hF.lt
  clear hk hv hF hc hok b1 b2 b3 b4 hn hm hf hr hf2 f4 f5
  have hnm : n ≤ 1048576 := by omega
  go_enter Tryd.func37, Tryd.ntmps37
  have hal := (Below.refl w.heap.size w).alloc (Nat.le_refl _) (.cells kc 43)
  replace K := Lib.hid (K.out.trans (hal.mono K.out.size))
  replace F := Lib.hid (F.out.below hal F.out.lt)
  have N := Lib.hid (Blk.new w 43 kc)
  clear hal
  have L3 : (loadVar 43 ⟨w.heap.size, 0, none⟩).run Tryd.prog (w.alloc (.cells kc 43)) = .ok (.agg kc) (w.alloc (.cells kc 43)) := run_blk_load (P := Tryd.prog) 43 (w.heap.size) _ N.out Tryd.underlying43 rfl IK.out
  replace L3 := Lib.hid L3
  go_wp2_with (((with_reducible refine wpList_load_want (op := ⟨some 9, .load 43 (.tmp 3), _, _, _, _⟩) ?wg3 43 (.tmp 3) ?wo3 ⟨w.heap.size, 0, none⟩ ?wx3 (.agg kc) L3.out ?_); (case wg3 => rfl); (case wo3 => rfl); (case wx3 => rfl)))
  clear L3
  have hzV1 : Hid ((w.alloc (.cells kc 43)).heap.size = w.heap.size + 1) := by show _ = _; simp only [World.size_alloc]
  generalize (w.alloc (.cells kc 43)) = V1 at *
  refine (CR.out V1).mono ?_
  rintro e V2 ⟨b, o, cp, rfl, hx, hy⟩
  replace K := Lib.hid (K.out.trans (hy.mono K.out.size))
  replace F := Lib.hid (F.out.below hy F.out.lt)
  replace N := Lib.hid (N.out.below hy N.out.lt)
  have X := Lib.hid (hx)
  clear hx
  clear hy
  have hqn := eqn_some
  have HQ := HL.out
  have L4 := (F.out.cell 1029).trans FN.out
  have qK := K.out.size
  have qX := rd_lt X.out HL.out
  go_wp2_with (at_make; refine wpList_ints rfl _ _ rfl n hnm rfl rfl ?_)
  clear L4
  intro V3 hZ hy
  replace K := Lib.hid (K.out.trans (hy.mono K.out.size))
  replace F := Lib.hid (F.out.below hy F.out.lt)
  replace N := Lib.hid (N.out.below hy N.out.lt)
  replace X := Lib.hid (X.out.below hy)
  have Z0 := Lib.hid hZ
  clear hZ hy
  obtain ⟨gB, hgB⟩ : ∃ gB, gB = V2.heap.size := ⟨_, rfl⟩
  rw [← hgB] at Z0 ⊢
  rw [← hgB] at qK qX
  have HBN : Hid (b ≠ gB) := by show b ≠ gB; omega
  clear hgB
  obtain ⟨O, hO⟩ : ∃ O, O = List.replicate n 0 := ⟨_, rfl⟩
  have HU0 : Hid (UpTo f n 0 O) := ⟨by rw [hO]; exact List.length_replicate, fun j h => by omega⟩
  rw [← hO] at Z0
  clear hO
  have HALL := Lib.hid (fun L (h : UpTo f n n L) => h.all)
  go_wp2
  go_loopw [20] (fun i wr => ∃ (k : Nat) (L : List Nat), k ≤ n ∧ i = .int .i64 (k : Int) ∧ Hid (UpTo f n k L) ∧ Hid (Blk wr gB 3 (nus .i64 L).toArray) ∧ Hid (Blk wr g 60 fc) ∧ Hid (Rd wr (.slice (some ⟨b, o, none⟩) bs.length cp) (nus .u8 bs)) ∧ Hid (Below w.heap.size w wr)) (fun i _ => n - (RowKit.intOf i).toNat)
  case atStart => exact ⟨0, O, by omega, rfl, HU0, Z0, F, X, K⟩
  case round =>
    obtain ⟨k, L, hk, rfl, hU, Zr, Fr, Xr, Kr⟩ := hrel
    clear Z0 F X K HU0 N
    by_cases hlt : k < n
    · have d8 : decide ((k : Int) < (n : Int)) = true := decide_eq_true (by omega)
      have d9 : decide (k < n) = true := decide_eq_true (by omega)
      have CBk := Lib.hid (CB.out k hlt)
      rw [show ((16 + k : Nat) : Int) = 16 + (k : Int) from by omega] at CBk
      have hUN := Lib.hid (hU.out.next hlt)
      have w6 : IntKind.i64.wrap (16 + (k : Int)) = 16 + (k : Int) := by rw [IntKind.wrap_i64]; omega
      have hLl := hU.out.1
      generalize f k = r at *
      have L5 := (Fr.out.cell 1028).trans FB.out
      go_wp2_with fail
      clear L5
      refine (CBk.out _ wr Fr.out Xr.out).mono ?_
      rintro e V5 ⟨rfl, hy⟩
      replace Zr := Lib.hid (Zr.out.below hy Zr.out.lt)
      replace Fr := Lib.hid (Fr.out.below hy Fr.out.lt)
      replace Xr := Lib.hid (Xr.out.below hy)
      replace Kr := Lib.hid (Kr.out.trans (hy.mono Kr.out.size))
      clear hy
      have c3 := Zr.out.cell k
      rw [nusa_at _ _ _ (by omega)] at c3
      have c4 := Zr.out.frozen k
      generalize L.getD k 0 = z at c3
      have Z2' := Zr.out.set_ k (.int .i64 (r : Int))
      rw [nusa_set] at Z2'
      have Z2 := Lib.hid Z2'
      have F2 := Lib.hid (Fr.out.far (p := ⟨gB, k, none⟩) (by show g ≠ gB; omega) (.int .i64 (r : Int)))
      have K2 := Lib.hid (Kr.out.setCell (p := ⟨gB, k, none⟩) (by show _ ≤ gB; omega) (.int .i64 (r : Int)))
      have X2 := Lib.hid (rd_kept Xr.out (Below.heap_setCell _ ⟨gB, k, none⟩ (.int .i64 (r : Int)) b HBN.out))
      clear Z2'
      go_wp2
      go_roundw
      case rel => exact ⟨k + 1, _, Nat.succ_le_of_lt hlt, by go_num, hUN, Z2, F2, X2, K2⟩
      case measure => simp [RowKit.intOf]; omega
    · obtain rfl : k = n := by omega
      have d8 : decide (((k : Nat) : Int) < (k : Int)) = false := decide_eq_false (by omega)
      have d9 : decide (k < k) = false := decide_eq_false (by omega)
      have hl := hU.out.1
      obtain rfl := HALL.out _ hU.out
      clear hU
      go_wp2
      go_ret
      exact ⟨gB, rfl, qK, Zr.out, Kr.out⟩
theorem eqp_nil (W : World) : (binOp .eql 35 (.pointer none) (.pointer none)).run Tryd.prog W = .ok (.bool true) W := by kernel_rfl
theorem eqp_some (p : Addr) (W : World) : (binOp .eql 35 (.pointer (some p)) (.pointer none)).run Tryd.prog W = .ok (.bool false) W := by kernel_rfl
set_option maxRecDepth 100000 in
set_option maxHeartbeats 4000000 in
theorem places_nil (k : Fl) (hk : k.Fit) (w : World) :
    Calls Tryd.prog 26 #[.pointer none, .agg k.cs] w fun e w' => e = .returned (.slice none 0 0) ∧ Below w.heap.size w w' := by
  have K := Lib.hid (Below.refl w.heap.size w)
  obtain ⟨a0, a1, a18, a35, a36⟩ := fl_get k hk
  have G0 := Lib.hid a0
  have G1 := Lib.hid a1
  have G18 := Lib.hid a18
  have G35 := Lib.hid a35
  have G36 := Lib.hid a36
  have KP1 := Lib.hid (fl_src k)
  have KP2 := Lib.hid (fl_dst k hk)
  have IS := Lib.hid (fl_is k hk)
  have ID := Lib.hid (fl_id k hk)
  have IK := Lib.hid (fl_ik k hk)
  clear a0 a1 a18 a35 a36
  generalize k.cs = kc at *
  generalize cellsA k.sv k.S = S at *
  generalize cellsA k.dv k.D = D at *
  generalize k.p = p at *
  generalize k.sv = sv at *
  generalize k.dv = dv at *
  generalize k.sp = sp at *
  generalize k.dp = dp at *
  clear hk
  go_enter Tryd.func26, Tryd.ntmps26
  have hal := (Below.refl w.heap.size w).alloc (Nat.le_refl _) (.cells kc 43)
  replace K := Lib.hid (K.out.trans (hal.mono K.out.size))
  have NB := Lib.hid (Blk.new w 43 kc)
  clear hal
  go_wp2
  go_ret
  exact ⟨rfl, K.out⟩
set_option maxRecDepth 100000 in
set_option maxHeartbeats 4000000 in
theorem places_yes (c : Cf) (hc : c.Fit) (hok : okC c = true) (k : Fl) (hk : k.Fit) (gf gF gW N L : Nat) (h0 : 0 < N) (hN : N ≤ 65536) (hv : vK k = true) (w : World) (hF : Blk w gf 60 (famC c)) (hB : Blk w gF 66 (flt gf N gW L)) :
    Calls Tryd.prog 26 #[.pointer (some ⟨gF, 0, none⟩), .agg k.cs] w fun e w' => ∃ gB, e = .returned (.slice (some ⟨gB, 0, none⟩) c.hs.toNat c.hs.toNat) ∧ w.heap.size ≤ gB ∧ Blk w' gB 3 (nus .i64 (plcL c k N)).toArray ∧ Below w.heap.size w w' := by
  have K := Lib.hid (Below.refl w.heap.size w)
  have F := Lib.hid hF
  have B := Lib.hid hB
  obtain ⟨fb0, fb1, fb2⟩ := flt_get gf N gW L
  have FB0 := Lib.hid fb0
  have FB1 := Lib.hid fb1
  have FB2 := Lib.hid fb2
  clear fb0 fb1 fb2
  have CB := Lib.hid (fun W h => bits_own c hc hok k hk hv gf W h)
  obtain ⟨b1, b2⟩ := okC_hs hok
  obtain ⟨n, hn⟩ : ∃ n : Nat, c.hs = (n : Int) := ⟨c.hs.toNat, by omega⟩
  have hcn : c.hs.toNat = n := by omega
  unfold plcL
  rw [btN_y hv]
  rw [hcn] at CB ⊢
  have hl := btL_len c k n
  have hlt : ∀ i, i < n → (btL c k n).getD i 0 < c.bl.toNat := btL_bl c k hok n
  obtain ⟨b3, b4⟩ := okC_bl hok
  have hle : ∀ i, i < n → (btL c k n).getD i 0 ≤ 65536 := fun i hi => by have := hlt i hi; omega
  have HLE := Lib.hid hle
  have hnm : n ≤ 4 := by omega
  clear hlt hle
  generalize btL c k n = bs at *
  obtain ⟨a0, a1, a18, a35, a36⟩ := fl_get k hk
  have G0 := Lib.hid a0
  have G1 := Lib.hid a1
  have G18 := Lib.hid a18
  have G35 := Lib.hid a35
  have G36 := Lib.hid a36
  have KP1 := Lib.hid (fl_src k)
  have KP2 := Lib.hid (fl_dst k hk)
  have IS := Lib.hid (fl_is k hk)
  have ID := Lib.hid (fl_id k hk)
  have IK := Lib.hid (fl_ik k hk)
  clear a0 a1 a18 a35 a36
  generalize k.cs = kc at *
  generalize cellsA k.sv k.S = S at *
  generalize cellsA k.dv k.D = D at *
  generalize k.p = p at *
  generalize k.sv = sv at *
  generalize k.dv = dv at *
  generalize k.sp = sp at *
  generalize k.dp = dp at *
  generalize flt gf N gW L = fl at *
  generalize famC c = fc at *
  have qF : gf < w.heap.size := hF.lt
  have qB : gF < w.heap.size := hB.lt
  clear hk hv hF hB hc hok b1 b2 b3 b4 hn hcn
  have hNz : ((N : Int) == 0) = false := by rw [beq_eq_false_iff_ne]; omega
  have hNz2 : (N : Int) ≠ 0 := by omega
  have hNz3 : ¬ N = 0 := by omega
  go_enter Tryd.func26, Tryd.ntmps26
  have hal := (Below.refl w.heap.size w).alloc (Nat.le_refl _) (.cells kc 43)
  replace K := Lib.hid (K.out.trans (hal.mono K.out.size))
  replace F := Lib.hid (F.out.below hal F.out.lt)
  replace B := Lib.hid (B.out.below hal B.out.lt)
  have NB := Lib.hid (Blk.new w 43 kc)
  clear hal
  go_wp2_with fail
  have hzV1 : Hid ((w.alloc (.cells kc 43)).heap.size = w.heap.size + 1) := by show _ = _; simp only [World.size_alloc]
  generalize (w.alloc (.cells kc 43)) = V1 at *
  refine wp_region_held (S := (fun w' : World => Below (V1.heap.size) V1 w')) (by kernel_rfl) ?_
  change wpAnyH _ _ _ _ _ _ _ _ V1.drew
  have hy : Below V1.heap.size V1 V1.drew := (Below.refl _ _).drew
  have hE0 : Below (V1.heap.size) V1 V1.drew := (Below.refl _ _).drew
  clear hy
  generalize V1.drew = Y3x0 at hE0  ⊢
  have E0 := Lib.hid hE0
  clear hE0
  refine tkA 0 (?_) ?_ E0.out ?_
  rotate_left
  · (intro w1 hS; go_simp; try with_reducible rfl)
  simp only [Act.put, tS1, tS2, tS3]
  refine tkA 1 (?_) ?_ E0.out ?_
  rotate_left
  · (intro w1 hS; go_simp; try with_reducible rfl)
  simp only [Act.put, tS1, tS2, tS3]
  refine tkA 2 (?_) ?_ E0.out ?_
  rotate_left
  · (intro w1 hS; go_simp; try with_reducible rfl)
  simp only [Act.put, tS1, tS2, tS3]
  refine tkA 3 (?_) ?_ E0.out ?_
  rotate_left
  · (intro w1 hS; have hW := hS; have q := ((B.out.below hW B.out.lt).cell 0).trans FB0.out; clear hW hS; go_simp; try with_reducible rfl)
  simp only [Act.put, tS1, tS2, tS3]
  refine tkA 4 (.agg kc) ?_ E0.out ?_
  · (intro w1 hS; have hW := hS; exact exec_load 43 (.tmp 3) rfl _ rfl _ (run_blk_load (P := Tryd.prog) 43 (w.heap.size) _ (NB.out.below hW NB.out.lt) Tryd.underlying43 rfl IK.out))
  simp only [Act.put, tS1, tS2, tS3]
  refine tkO 5 (fun KK hK => ?_)
  go_simp
  have hsz := E0.out.size
  refine (CB.out Y3x0 (F.out.below E0.out F.out.lt)).mono ?_
  rintro e Y3x1 ⟨gB, rfl, hgB, hx, hy⟩
  have E1 := Lib.hid (E0.out.trans (hy.mono E0.out.size))
  have C1 := Lib.hid E1.out
  have X := Lib.hid hx
  clear hx
  have qK : w.heap.size ≤ gB := Nat.le_trans K.out.size (Nat.le_trans hsz hgB)
  clear hy E0
  refine hK.out _ _ C1.out (fun _ => ?_)
  clear hK KK
  refine wpAnyH_mono (S' := (fun w' : World => Below Y3x1.heap.size Y3x1 w')) (fun w1 h => C1.out.trans (h.mono C1.out.size)) _ _ _ _ ?_
  clear C1
  try simp only [Act.put, tS1, tS2, tS3]
  refine tkA 6 (?_) ?_ (Below.refl _ _) ?_
  rotate_left
  · (intro w1 hS; go_simp; try with_reducible rfl)
  simp only [Act.put, tS1, tS2, tS3]
  refine wpAnyH_done (by kernel_rfl) ?_ _
  have hy := E1.out
  replace K := Lib.hid (K.out.trans (hy.mono K.out.size))
  replace F := Lib.hid (F.out.below hy F.out.lt)
  replace B := Lib.hid (B.out.below hy B.out.lt)
  replace NB := Lib.hid (NB.out.below hy NB.out.lt)
  clear hy E1
  go_wp2
  go_loopw [17] (fun i wr => ∃ j : Nat, j ≤ n ∧ i = .int .i64 (j : Int) ∧ Hid (Blk wr gB 3 (nus .i64 (modTo N bs j)).toArray) ∧ Hid (Blk wr gF 66 fl) ∧ Hid (Below w.heap.size w wr)) (fun i _ => n - (RowKit.intOf i).toNat)
  case atStart => exact ⟨0, by omega, rfl, by rw [modTo_zero]; exact X, B, K⟩
  case round =>
    obtain ⟨j, hj, rfl, Zr, Br, Kr⟩ := hrel
    clear F B X K
    by_cases hlt : j < n
    · have d8 : decide ((j : Int) < (n : Int)) = true := decide_eq_true (by omega)
      have d9 : decide (j < n) = true := decide_eq_true (by omega)
      have hb2 : 0 ≤ (j : Int) ∧ (j : Int) < (n : Int) := by omega
      have HN := Lib.hid (modTo_next N bs j (by omega))
      have HG := Lib.hid (modTo_get N bs j (by omega))
      have hx := HLE.out j hlt
      generalize bs.getD j 0 = x at *
      have tm : (x : Int).tmod (N : Int) = ((x % N : Nat) : Int) := by rw [Int.tmod_eq_emod_of_nonneg (by omega)]; exact (Int.natCast_emod x N).symm
      generalize x % N = r at *
      go_wp2_with fail
      refine wp_region_still_tail 9 (by kernel_rfl) (by kernel_rfl) ?_
      change wpStill _ _ wr.drew (fun a' => wpList _ _ _ _ a' wr.drew) _ _
      have hy := (Below.refl wr.heap.size wr).drew
      replace Zr := Lib.hid (Zr.out.below hy Zr.out.lt)
      replace Br := Lib.hid (Br.out.below hy Br.out.lt)
      replace Kr := Lib.hid (Kr.out.trans (hy.mono Kr.out.size))
      clear hy
      generalize wr.drew = V3 at *
      have c3 := Zr.out.cell j
      rw [nusa_at _ _ _ (by rw [modTo_len]; omega), HG.out] at c3
      have c5 := (Br.out.cell 1).trans FB1.out
      simp only [List.take_succ_cons, List.take_zero, List.drop_succ_cons, List.drop_zero]
      still_step
      still_step
      still_step
      still_step
      still_step
      still_step
      still_step
      still_step
      still_step
      refine wpStill_nil ?_
      try simp only [Act.put, tS1, tS2, tS3]
      have c4 := Zr.out.frozen j
      have Z2' := Zr.out.set_ j (.int .i64 (r : Int))
      rw [nusa_set, HN.out] at Z2'
      have Z2 := Lib.hid Z2'
      have B2 := Lib.hid (Br.out.far (p := ⟨gB, j, none⟩) (by show gF ≠ gB; omega) (.int .i64 (r : Int)))
      have K2 := Lib.hid (Kr.out.setCell (p := ⟨gB, j, none⟩) (by show _ ≤ gB; omega) (.int .i64 (r : Int)))
      clear Z2'
      go_wp2
      go_roundw
      case rel => exact ⟨j + 1, Nat.succ_le_of_lt hlt, by go_num, Z2, B2, K2⟩
      case measure => simp [RowKit.intOf]; omega
    · obtain rfl : j = n := by omega
      have d8 : decide (((j : Nat) : Int) < (j : Int)) = false := decide_eq_false (by omega)
      have d9 : decide (j < j) = false := decide_eq_false (by omega)
      have HA := Lib.hid (modTo_all N bs j (by omega))
      rw [HA.out] at Zr
      go_wp2
      go_ret
      exact ⟨gB, rfl, qK, Zr.out, Kr.out⟩
end Go.Proofs.YtcgaibkpdihncaaDoor
