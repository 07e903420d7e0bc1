/- Texts that the walks of this seat lean on, put together: each has its own remark below. -/
import Derived.Test.YtopfbgoiehlhbaaM10
import Derived.Test.YtopfbgoiehlhbaaM20

/- bazaarref1.Layers. -/
namespace Go.Proofs.Ytopfbgoiehlhbaa
open Go.RowKit

theorem row_far {w w' : World} {b : Nat} {t e : TypeId} {cs : Array Value} {base k : Nat} {v : Value} {n : Nat} {xs : List Value} (h : w.ownsRow base e k v n xs) (hb : Blk w b t cs) (hte : t ≠ e) (hF : ∀ k, k ≠ b → w'.heap[k]? = w.heap[k]?) : w'.ownsRow base e k v n xs := by
  have hne := own_other h hb hte
  refine ⟨h.1, ?_⟩
  rcases h.2 with h0 | ⟨g, cap, cur, rfl, hbg, hg, h3⟩
  · exact .inl h0
  · exact .inr ⟨g, cap, cur, rfl, hbg, (hF g (fun e => hne (by simp [Value.ownBlock, e]))).trans hg, h3⟩
set_option maxRecDepth 100000 in
set_option maxHeartbeats 8000000 in
theorem rlayers_any (v : Value) (zs : List Nat) (w : World) (hr : Rd w v (nus .u8 zs)) (hb : ∀ c ∈ zs, c < 256) (hz : zs.length ≤ 3000) :
    Calls Try.prog 11 #[v] w fun e w' => ∃ x, e = .returned x ∧ w'.ownsRow w.heap.size 46 2 x (lys zs).length (lcells (lys zs)) ∧ Below w.heap.size w w' := by
  have CN := Lib.hid (fun W (h : Rd W v (nus .u8 zs)) => rnet_any v zs W h hb)
  have K := Lib.hid (Below.refl w.heap.size w)
  have HR := Lib.hid hr
  obtain ⟨LS, hLS⟩ : ∃ L, L = lys zs := ⟨_, rfl⟩
  rw [← hLS]
  unfold lys at hLS
  have HLS := Lib.hid hLS
  clear hLS
  by_cases hS : (net zs).2.2 = 1
  · have e : LS = [] := by rw [HLS.out, if_pos hS]
    subst e
    rw [hS] at CN
    obtain ⟨a, cap, rfl, -, -⟩ := rd_shape hr
    clear hr hb HLS hz
    generalize (net zs).1 = at0 at *
    generalize (net zs).2.1 = kind at *
    generalize zs.length = n at *
    clear hS
    go_enter Try.func11, Try.ntmps11
    go_wp2_with fail
    refine (CN.out _ (HR.out.below K.out)).mono ?_
    rintro e V1 ⟨rfl, hy⟩
    replace K := Lib.hid (K.out.trans (hy.mono K.out.size))
    clear hy
    go_wp2
    go_ret
    exact ⟨_, rfl, World.ownsRow_nil _ _ _ _, K.out⟩
  have h14 : 14 ≤ zs.length := by
    rcases Nat.lt_or_ge zs.length 14 with h | h
    · rw [net_short zs h] at hS; exact absurd rfl hS
    · exact h
  obtain ⟨a, cap, rfl, hlc, hlm⟩ := rd_shape hr
  obtain ⟨b, off, rfl, -⟩ := hr.cells (by omega)
  have CT := Lib.hid (fun W (h : Rd W (.slice (some ⟨b, off, none⟩) zs.length cap) (nus .u8 zs)) => be16_b (some ⟨b, off, none⟩) zs.length cap 12 zs W h hb (by omega))
  have HLS1 := Lib.hid (HLS.out.trans (if_neg hS))
  have HN0 := Lib.hid (net_ok zs)
  have HBT := Lib.hid (show ∀ c ∈ pkt zs, c < 256 from fun c hc => hb c (List.mem_of_mem_drop hc))
  have HBP := Lib.hid (show ∀ c ∈ sgm zs, c < 256 from fun c hc => hb c (List.mem_of_mem_drop (List.mem_of_mem_take hc)))
  have lT : (pkt zs).length = zs.length - (net zs).1 := by unfold pkt; rw [List.length_drop]
  have HL := Lib.hid lT
  have HRT := Lib.hid (fun h => by
    have hRT := subP hr (net zs).1 (zs.length - (net zs).1) (by have := (net_ok zs h).2.1; omega)
    rw [List.take_of_length_le (by rw [List.length_drop]; exact Nat.le_refl _)] at hRT
    exact (show Rd w (.slice (if cap = (net zs).1 then some (⟨b, off, none⟩ : Addr) else some ⟨b, off + (net zs).1, none⟩) (zs.length - (net zs).1) (cap - (net zs).1)) (nus .u8 (pkt zs)) from hRT))
  have HSX := Lib.hid (show sixF zs = decide ((net zs).2.1 ≠ 2048) from rfl)
  have HPT := Lib.hid (show sgm zs = (zs.drop ((net zs).1 + fS (sixF zs) (pkt zs))).take (fL (sixF zs) (pkt zs) - fS (sixF zs) (pkt zs)) from rfl)
  have L0 := Lib.hid (show ly0 zs = (0, 0) :: if u2 zs 12 = 33024 then [(1, 14)] else [] from rfl)
  have C4 := Lib.hid (fun W z (h : Rd W z (nus .u8 (pkt zs))) => rfour_any z (pkt zs) W h HBT.out (by omega))
  have C6 := Lib.hid (fun W z (h : Rd W z (nus .u8 (pkt zs))) => rsix_any z (pkt zs) W h HBT.out)
  have HRS := Lib.hid hr
  clear hr hb h14 HLS lT
  generalize sgm zs = PT at *
  generalize pkt zs = T at *
  generalize hat : (net zs).1 = at0 at *
  generalize (net zs).2.1 = kind at *
  generalize (net zs).2.2 = r at *
  generalize ly0 zs = LL at *
  generalize sixF zs = six at *
  obtain ⟨n, hn⟩ : ∃ n, n = zs.length := ⟨_, rfl⟩
  have HNL := Lib.hid hn
  rw [← hn] at HRS CN CT HR HL HRT HN0 hlc hz
  have hgoal : (Calls Try.prog 11 #[.slice (some ⟨b, off, none⟩) n cap] w fun e w' => ∃ x, e = .returned x ∧ w'.ownsRow w.heap.size 46 2 x LS.length (lcells LS) ∧ Below w.heap.size w w') → (Calls Try.prog 11 #[.slice (some ⟨b, off, none⟩) zs.length cap] w fun e w' => ∃ x, e = .returned x ∧ w'.ownsRow w.heap.size 46 2 x LS.length (lcells LS) ∧ Below w.heap.size w w') := by rw [← hn]; exact id
  refine hgoal ?_
  clear hgoal hn hat
  unfold maxLen at hlm
  have g1 : ((r : Int) == 1) = false := by rw [beq_eq_false_iff_ne]; omega
  go_enter Try.func11, Try.ntmps11
  go_wp2_with fail
  refine (CN.out _ (HR.out.below K.out)).mono ?_
  rintro e V1 ⟨rfl, hy⟩
  replace K := Lib.hid (K.out.trans (hy.mono K.out.size))
  clear hy
  have qV := K.out.size
  go_wp2_with (((with_reducible refine wpList_one_rec (o := ⟨some 17, .buildSlice 34 1 #[(0, Operand.tmp 16)], _, _, _, _⟩) ?lg1 34 46 (.tmp 16) ?lo1 { data := #[101, 116, 104, 101, 114] } 0 ?lx1 Try.underlying34 rec46 ?_); (case lg1 => rfl); (case lo1 => rfl); (case lx1 => rfl)))
  intro V2 hg1 hy hz1
  replace K := Lib.hid (K.out.trans (hy.mono K.out.size))
  clear hy
  have HG1 := Lib.hid hg1
  clear hg1
  have LR := Lib.hid (own_rec (base := w.heap.size) HG1.out qV)
  go_wp2_with fail
  refine (CT.out _ (HR.out.below K.out)).mono ?_
  rintro e V3 ⟨rfl, hy⟩
  replace K := Lib.hid (K.out.trans (hy.mono K.out.size))
  replace LR := Lib.hid (row_under2 LR.out hy)
  clear hy
  by_cases htg : u2 zs 12 = 33024
  case pos =>
    have HLL := Lib.hid (show LL = [(0, 0), (1, 14)] by rw [L0.out, if_pos htg])
    generalize u2 zs 12 = uu at *
    subst htg
    clear L0
    go_wp2_with (((with_reducible refine wpList_one_rec (o := ⟨some 23, .buildSlice 34 1 #[(0, Operand.tmp 22)], _, _, _, _⟩) ?lg2 34 46 (.tmp 22) ?lo2 { data := #[118, 108, 97, 110] } 14 ?lx2 Try.underlying34 rec46 ?_); (case lg2 => rfl); (case lo2 => rfl); (case lx2 => rfl)))
    intro V4 hg2 hy hz2
    replace K := Lib.hid (K.out.trans (hy.mono K.out.size))
    replace LR := Lib.hid (row_under2 LR.out hy)
    clear hy
    have HG2 := Lib.hid hg2
    clear hg2
    go_wp2_with (((with_reducible refine wpList_app_rec (o := ⟨some 24, .call { callee := .builtin .append, args := #[Operand.tmp 21, Operand.tmp 23], argTypes := #[34, 34] }, _, _, _, _⟩) ?lg3 (.tmp 21) (.tmp 23) 34 46 ?lo3 Try.underlying34 rec46 w.heap.size (.slice (some ⟨V1.heap.size, 0, none⟩) 1 1) 1 [.string { data := #[101, 116, 104, 101, 114] }, .int .i64 0] ?ls3 LR.out (V3.heap.size) { data := #[118, 108, 97, 110] } 14 ?lx3 HG2.out ?ln3 K.out.size ?_); (case lg3 => rfl); (case lo3 => rfl); (case ls3 => rfl); (case lx3 => rfl); (case ln3 => omega)))
    intro x3 V5 oz gz
    replace K := Lib.hid (below_grown K.out LR.out (Nat.le_refl _) K.out.size gz)
    replace LR := Lib.hid oz
    clear oz gz
    by_cases hr0 : r = 0
    case neg =>
      have e : LS = LL := by rw [HLS1.out, if_pos hr0]
      subst e
      have g0 : ((r : Int) != 0) = true := by simp; omega
      clear hr0
      go_wp2
      go_ret
      exact ⟨_, rfl, by rw [HLL.out]; exact LR.out, K.out⟩
    have HLS2 := Lib.hid (HLS1.out.trans (if_neg (fun h => h hr0)))
    obtain ⟨hat1, hat2, hk⟩ := HN0.out hr0
    have HRT2 := Lib.hid (HRT.out hr0)
    clear HLS1 HN0 HRT
    subst hr0
    rcases hk with hk | hk
    · have hsx : six = false := by rw [HSX.out, hk]; rfl
      subst hsx hk
      obtain ⟨P, hP⟩ : ∃ P, P = (if cap = at0 then some (⟨b, off, none⟩ : Addr) else some ⟨b, off + at0, none⟩) := ⟨_, rfl⟩
      have hRT := HRT2.out
      rw [← hP] at hRT
      have RT := Lib.hid hRT
      have hP2 := hP.symm
      clear hRT hP HRT2 HSX
      have YH : Hid ((fhd false T).size = Array.size (#[Value.int .i64 0, .int .i64 0, .int .u8 0, .bool false, .int .u8 0, .int .u8 0, .int .u8 0, .int .u8 0, .int .u8 0, .int .u8 0, .int .u8 0, .int .u8 0, .int .u8 0, .int .u8 0, .int .u8 0, .int .u8 0, .int .u8 0, .int .u8 0, .int .u8 0, .int .u8 0, .bool false, .int .u8 0, .int .u8 0, .int .u8 0, .int .u8 0, .int .u8 0, .int .u8 0, .int .u8 0, .int .u8 0, .int .u8 0, .int .u8 0, .int .u8 0, .int .u8 0, .int .u8 0, .int .u8 0, .int .u8 0, .int .u8 0] : Array Value)) := fhd_size _ _
      have ZH := Lib.hid (i37.trans (congrArg some (fhd_size false T).symm))
      have AH := Lib.hid (fhd_all false T)
      have HHD := Lib.hid (fhd_yes false T)
      have CH := Lib.hid (show ∀ W z, Rd W z (nus .u8 T) → Calls Try.prog 23 #[z] W fun e w' => e = .returned (.tuple #[.agg (fhd false T), .int .i64 (fhr false T : Nat)]) ∧ Below W.heap.size W w' from fun W z h => C4.out W z h)
      clear C4 C6
      generalize hFH : fhd false T = H at *
      have HFH := Lib.hid hFH
      clear hFH
      generalize hFR : fhr false T = fr at *
      have HFR := Lib.hid hFR
      clear hFR
      have qX := K.out.size
      have hal := (Below.refl V5.heap.size V5).alloc (Nat.le_refl _) (.cells #[Value.int .i64 0, .int .i64 0, .int .u8 0, .bool false, .int .u8 0, .int .u8 0, .int .u8 0, .int .u8 0, .int .u8 0, .int .u8 0, .int .u8 0, .int .u8 0, .int .u8 0, .int .u8 0, .int .u8 0, .int .u8 0, .int .u8 0, .int .u8 0, .int .u8 0, .int .u8 0, .bool false, .int .u8 0, .int .u8 0, .int .u8 0, .int .u8 0, .int .u8 0, .int .u8 0, .int .u8 0, .int .u8 0, .int .u8 0, .int .u8 0, .int .u8 0, .int .u8 0, .int .u8 0, .int .u8 0, .int .u8 0, .int .u8 0] 56)
      replace K := Lib.hid (K.out.trans (hal.mono K.out.size))
      replace LR := Lib.hid (row_under2 LR.out hal)
      have HX := Lib.hid (Blk.new V5 56 #[Value.int .i64 0, .int .i64 0, .int .u8 0, .bool false, .int .u8 0, .int .u8 0, .int .u8 0, .int .u8 0, .int .u8 0, .int .u8 0, .int .u8 0, .int .u8 0, .int .u8 0, .int .u8 0, .int .u8 0, .int .u8 0, .int .u8 0, .int .u8 0, .int .u8 0, .int .u8 0, .bool false, .int .u8 0, .int .u8 0, .int .u8 0, .int .u8 0, .int .u8 0, .int .u8 0, .int .u8 0, .int .u8 0, .int .u8 0, .int .u8 0, .int .u8 0, .int .u8 0, .int .u8 0, .int .u8 0, .int .u8 0, .int .u8 0])
      clear hal
      go_wp2_with fail
      have hzV6 : Hid ((V5.alloc (.cells #[Value.int .i64 0, .int .i64 0, .int .u8 0, .bool false, .int .u8 0, .int .u8 0, .int .u8 0, .int .u8 0, .int .u8 0, .int .u8 0, .int .u8 0, .int .u8 0, .int .u8 0, .int .u8 0, .int .u8 0, .int .u8 0, .int .u8 0, .int .u8 0, .int .u8 0, .int .u8 0, .bool false, .int .u8 0, .int .u8 0, .int .u8 0, .int .u8 0, .int .u8 0, .int .u8 0, .int .u8 0, .int .u8 0, .int .u8 0, .int .u8 0, .int .u8 0, .int .u8 0, .int .u8 0, .int .u8 0, .int .u8 0, .int .u8 0] 56)).heap.size = V5.heap.size + 1) := by show _ = _; simp only [World.size_alloc]
      generalize (V5.alloc (.cells #[Value.int .i64 0, .int .i64 0, .int .u8 0, .bool false, .int .u8 0, .int .u8 0, .int .u8 0, .int .u8 0, .int .u8 0, .int .u8 0, .int .u8 0, .int .u8 0, .int .u8 0, .int .u8 0, .int .u8 0, .int .u8 0, .int .u8 0, .int .u8 0, .int .u8 0, .int .u8 0, .bool false, .int .u8 0, .int .u8 0, .int .u8 0, .int .u8 0, .int .u8 0, .int .u8 0, .int .u8 0, .int .u8 0, .int .u8 0, .int .u8 0, .int .u8 0, .int .u8 0, .int .u8 0, .int .u8 0, .int .u8 0, .int .u8 0] 56)) = V6 at *
      refine (CH.out _ _ (RT.out.below K.out)).mono ?_
      rintro e V7 ⟨rfl, hy⟩
      replace K := Lib.hid (K.out.trans (hy.mono K.out.size))
      replace LR := Lib.hid (row_under2 LR.out hy)
      replace HX := Lib.hid (HX.out.below hy HX.out.lt)
      clear hy
      go_wp2_with (((with_reducible refine wpList_blk_store (op := ⟨none, .store 56 (.tmp 7) (.tmp 35), _, _, _, _⟩) ?sg1 56 (.tmp 7) (.tmp 35) ?so1 (V5.heap.size) H ?sx1 ?sy1 HX.out YH.out ZH.out AH.out ?_); (case sg1 => rfl); (case so1 => rfl); (case sx1 => rfl); (case sy1 => rfl)))
      intro V8 hA hF hB
      replace K := Lib.hid (K.out.trans (hB _ (by omega)))
      replace LR := Lib.hid (row_far LR.out HX.out (by decide) hF)
      replace HX := Lib.hid hA
      clear hA hF hB
      by_cases hfr : fr = 0
      case neg =>
        have e : LS = LL := by rw [HLS2.out, if_pos hfr]
        subst e
        have g0 : ((fr : Int) != 0) = true := by simp; omega
        clear hfr
        go_wp2
        go_ret
        exact ⟨_, rfl, by rw [HLL.out]; exact LR.out, K.out⟩
      have HDD := HHD.out hfr
      have HLS3 := Lib.hid (HLS2.out.trans (if_neg (fun h => h hfr)))
      clear HLS2 HHD RT CH HFR hP2
      subst hfr
      have e1 : H = hcells (fS false T) (fL false T) (fP false T) (fA false T) (fB false T) := HFH.out.symm.trans HDD.hd
      have h20 := HDD.low
      have hmid := HDD.mid
      have hhigh := HDD.high
      have hpr := HDD.pr
      rw [HL.out] at hhigh
      clear HDD HFH HL
      generalize fS false T = s at *
      generalize fL false T = l at *
      generalize fP false T = p at *
      have H0 := Lib.hid (show H[0]? = some (.int .i64 (s : Int)) by rw [e1]; exact (hcells_get s l p _ _).1)
      have H1 := Lib.hid (show H[1]? = some (.int .i64 (l : Int)) by rw [e1]; exact (hcells_get s l p _ _).2.1)
      have H2 := Lib.hid (show H[2]? = some (.int .u8 (p : Int)) by rw [e1]; exact (hcells_get s l p _ _).2.2)
      obtain ⟨sg, hsg⟩ : ∃ x, x = at0 + s := ⟨_, rfl⟩
      obtain ⟨en, hen⟩ : ∃ x, x = at0 + l := ⟨_, rfl⟩
      have hpt := HPT.out
      rw [← hsg, show l - s = en - sg by omega] at hpt
      have hRP := subP HRS.out sg (en - sg) (by omega)
      rw [← hpt] at hRP
      rw [← hsg] at HLS3
      obtain ⟨P2, hP3⟩ : ∃ P, P = (if cap = sg then some (⟨b, off, none⟩ : Addr) else some ⟨b, off + sg, none⟩) := ⟨_, rfl⟩
      rw [← hP3] at hRP
      have RP := Lib.hid hRP
      have HP2 := Lib.hid hP3
      have CR := Lib.hid (fun (z : Value) (W : World) (h : Rd W z (nus .u8 PT)) => rread_any p z PT W h HBP.out)
      have wa1 := Lib.hid (show IntKind.i64.wrap ((at0 : Int) + (s : Int)) = (sg : Int) by rw [IntKind.wrap_i64]; omega)
      have wa2 := Lib.hid (show IntKind.i64.wrap ((at0 : Int) + (l : Int)) = (en : Int) by rw [IntKind.wrap_i64]; omega)
      have hse : sg ≤ en := by omega
      have hen2 : en ≤ n := by omega
      clear hRP hP3 HRS HPT e1 hpt hsg hen h20 hmid hhigh
      generalize rs7 p PT = RS at *
      generalize fs p PT = r2 at *
      go_wp2_with (((with_reducible refine wpList_one_rec (o := ⟨some 52, .buildSlice 34 1 #[(0, Operand.tmp 51)], _, _, _, _⟩) ?lg4 34 46 (.tmp 51) ?lo4 { data := #[105, 112, 118, 52] } (at0 : Int) ?lx4 Try.underlying34 rec46 ?_); (case lg4 => rfl); (case lo4 => rfl); (case lx4 => rfl)))
      intro V9 hg4 hy hz4
      replace K := Lib.hid (K.out.trans (hy.mono K.out.size))
      replace LR := Lib.hid (row_under2 LR.out hy)
      replace HX := Lib.hid (HX.out.below hy HX.out.lt)
      clear hy
      have HG4 := Lib.hid hg4
      clear hg4
      go_wp2_with (((with_reducible refine wpList_app_rec (o := ⟨some 53, .call { callee := .builtin .append, args := #[Operand.tmp 49, Operand.tmp 52], argTypes := #[34, 34] }, _, _, _, _⟩) ?lg5 (.tmp 49) (.tmp 52) 34 46 ?lo5 Try.underlying34 rec46 w.heap.size x3 (1 + 1) ([.string { data := #[101, 116, 104, 101, 114] }, .int .i64 0] ++ [.string { data := #[118, 108, 97, 110] }, .int .i64 14]) ?ls5 LR.out (V8.heap.size) { data := #[105, 112, 118, 52] } (at0 : Int) ?lx5 HG4.out ?ln5 K.out.size ?_); (case lg5 => rfl); (case lo5 => rfl); (case ls5 => rfl); (case lx5 => rfl); (case ln5 => omega)))
      intro x5 V10 oz gz
      replace K := Lib.hid (below_grown K.out LR.out (Nat.le_refl _) K.out.size gz)
      replace HX := Lib.hid (blk_grown HX.out LR.out (by decide) gz)
      replace LR := Lib.hid oz
      clear oz gz
      go_wp2_with fail
      refine wp_region_held (S := (fun w' : World => Below (V10.heap.size) V10 w')) (by kernel_rfl) ?_
      change wpAnyH _ _ _ _ _ _ _ _ V10.drew
      have hy : Below V10.heap.size V10 V10.drew := (Below.refl _ _).drew
      have hE0 : Below (V10.heap.size) V10 V10.drew := (Below.refl _ _).drew
      clear hy
      generalize V10.drew = Y18x0 at hE0  ⊢
      have E0 := Lib.hid hE0
      clear hE0
      refine wpAnyH_take (i := 0) (oi := { dst := some 60, op := Op.fieldAddr 56 (Operand.tmp 7) 2, type := 0, pos := "frame.go:426", after := #[], guard := none }) (v := ?_) rfl (by kernel_rfl) (by kernel_rfl) (by kernel_rfl) (fun _ _ _ h => h) (Or.inl ⟨by rfl, ?_⟩) E0.out ?_
      rotate_left
      · (intro w1 hS; go_simp; try with_reducible rfl)
      simp only [Act.put, List.setIfInBounds_toArray, List.set_cons_zero, List.set_cons_succ]
      refine wpAnyH_take (i := 1) (oi := { dst := some 61, op := Op.load 5 (Operand.tmp 60), type := 5, pos := "frame.go:426", after := #[{ on := 0, ground := Ground.data }], guard := none }) (v := ?_) rfl (by kernel_rfl) (by kernel_rfl) (by kernel_rfl) (fun _ _ _ h => h) (Or.inl ⟨by rfl, ?_⟩) E0.out ?_
      rotate_left
      · (intro w1 hS; have hW := hS; have q := ((HX.out.below hW HX.out.lt).cell 2).trans H2.out; clear hW hS; go_simp; try with_reducible rfl)
      simp only [Act.put, List.setIfInBounds_toArray, List.set_cons_zero, List.set_cons_succ]
      refine wpAnyH_take (i := 2) (oi := { dst := some 62, op := Op.move (Operand.tmp 0), type := 22, pos := "frame.go:426", after := #[], guard := none }) (v := ?_) rfl (by kernel_rfl) (by kernel_rfl) (by kernel_rfl) (fun _ _ _ h => h) (Or.inl ⟨by rfl, ?_⟩) E0.out ?_
      rotate_left
      · (intro w1 hS; go_simp; try with_reducible rfl)
      simp only [Act.put, List.setIfInBounds_toArray, List.set_cons_zero, List.set_cons_succ]
      refine wpAnyH_take (i := 3) (oi := { dst := some 63, op := Op.move (Operand.tmp 3), type := 3, pos := "frame.go:426", after := #[], guard := none }) (v := ?_) rfl (by kernel_rfl) (by kernel_rfl) (by kernel_rfl) (fun _ _ _ h => h) (Or.inl ⟨by rfl, ?_⟩) E0.out ?_
      rotate_left
      · (intro w1 hS; go_simp; try with_reducible rfl)
      simp only [Act.put, List.setIfInBounds_toArray, List.set_cons_zero, List.set_cons_succ]
      refine wpAnyH_take (i := 4) (oi := { dst := some 64, op := Op.fieldAddr 56 (Operand.tmp 7) 0, type := 0, pos := "frame.go:426", after := #[], guard := none }) (v := ?_) rfl (by kernel_rfl) (by kernel_rfl) (by kernel_rfl) (fun _ _ _ h => h) (Or.inl ⟨by rfl, ?_⟩) E0.out ?_
      rotate_left
      · (intro w1 hS; go_simp; try with_reducible rfl)
      simp only [Act.put, List.setIfInBounds_toArray, List.set_cons_zero, List.set_cons_succ]
      refine wpAnyH_take (i := 5) (oi := { dst := some 65, op := Op.load 3 (Operand.tmp 64), type := 3, pos := "frame.go:426", after := #[{ on := 4, ground := Ground.data }], guard := none }) (v := ?_) rfl (by kernel_rfl) (by kernel_rfl) (by kernel_rfl) (fun _ _ _ h => h) (Or.inl ⟨by rfl, ?_⟩) E0.out ?_
      rotate_left
      · (intro w1 hS; have hW := hS; have q := ((HX.out.below hW HX.out.lt).cell 0).trans H0.out; clear hW hS; go_simp; try with_reducible rfl)
      simp only [Act.put, List.setIfInBounds_toArray, List.set_cons_zero, List.set_cons_succ]
      refine wpAnyH_take (i := 6) (oi := { dst := some 66, op := Op.binOp BinOp.add 3 (Operand.tmp 63) (Operand.tmp 65) 3, type := 3, pos := "frame.go:426", after := #[{ on := 3, ground := Ground.data }, { on := 5, ground := Ground.data }], guard := none }) (v := ?_) rfl (by kernel_rfl) (by kernel_rfl) (by kernel_rfl) (fun _ _ _ h => h) (Or.inl ⟨by rfl, ?_⟩) E0.out ?_
      rotate_left
      · (intro w1 hS; have hW := hS; have q := wa1.out; clear hW hS; go_simp; try with_reducible rfl)
      simp only [Act.put, List.setIfInBounds_toArray, List.set_cons_zero, List.set_cons_succ]
      refine wpAnyH_take (i := 7) (oi := { dst := some 67, op := Op.move (Operand.tmp 3), type := 3, pos := "frame.go:426", after := #[], guard := none }) (v := ?_) rfl (by kernel_rfl) (by kernel_rfl) (by kernel_rfl) (fun _ _ _ h => h) (Or.inl ⟨by rfl, ?_⟩) E0.out ?_
      rotate_left
      · (intro w1 hS; go_simp; try with_reducible rfl)
      simp only [Act.put, List.setIfInBounds_toArray, List.set_cons_zero, List.set_cons_succ]
      refine wpAnyH_take (i := 8) (oi := { dst := some 68, op := Op.fieldAddr 56 (Operand.tmp 7) 1, type := 0, pos := "frame.go:426", after := #[], guard := none }) (v := ?_) rfl (by kernel_rfl) (by kernel_rfl) (by kernel_rfl) (fun _ _ _ h => h) (Or.inl ⟨by rfl, ?_⟩) E0.out ?_
      rotate_left
      · (intro w1 hS; go_simp; try with_reducible rfl)
      simp only [Act.put, List.setIfInBounds_toArray, List.set_cons_zero, List.set_cons_succ]
      refine wpAnyH_take (i := 9) (oi := { dst := some 69, op := Op.load 3 (Operand.tmp 68), type := 3, pos := "frame.go:426", after := #[{ on := 8, ground := Ground.data }], guard := none }) (v := ?_) rfl (by kernel_rfl) (by kernel_rfl) (by kernel_rfl) (fun _ _ _ h => h) (Or.inl ⟨by rfl, ?_⟩) E0.out ?_
      rotate_left
      · (intro w1 hS; have hW := hS; have q := ((HX.out.below hW HX.out.lt).cell 1).trans H1.out; clear hW hS; go_simp; try with_reducible rfl)
      simp only [Act.put, List.setIfInBounds_toArray, List.set_cons_zero, List.set_cons_succ]
      refine wpAnyH_take (i := 10) (oi := { dst := some 70, op := Op.binOp BinOp.add 3 (Operand.tmp 67) (Operand.tmp 69) 3, type := 3, pos := "frame.go:426", after := #[{ on := 7, ground := Ground.data }, { on := 9, ground := Ground.data }], guard := none }) (v := ?_) rfl (by kernel_rfl) (by kernel_rfl) (by kernel_rfl) (fun _ _ _ h => h) (Or.inl ⟨by rfl, ?_⟩) E0.out ?_
      rotate_left
      · (intro w1 hS; have hW := hS; have q := wa2.out; clear hW hS; go_simp; try with_reducible rfl)
      simp only [Act.put, List.setIfInBounds_toArray, List.set_cons_zero, List.set_cons_succ]
      refine wpAnyH_take (i := 11) (oi := { dst := some 71, op := Op.slice 22 (Operand.tmp 62) (some (Operand.tmp 66)) (some (Operand.tmp 70)) none, type := 22, pos := "frame.go:426", after := #[{ on := 2, ground := Ground.data }, { on := 6, ground := Ground.data }, { on := 10, ground := Ground.data }], guard := none }) (v := ?_) rfl (by kernel_rfl) (by kernel_rfl) (by kernel_rfl) (fun _ _ _ h => h) (Or.inl ⟨by rfl, ?_⟩) E0.out ?_
      rotate_left
      · (intro w1 hS; have hW := hS; have q : (sg : Int) ≤ (en : Int) := (by omega); have q3 : (en : Int) ≤ (cap : Int) := (by omega); have q2 := HP2.out.symm; clear hW hS; go_simp; try with_reducible rfl)
      simp only [Act.put, List.setIfInBounds_toArray, List.set_cons_zero, List.set_cons_succ]
      refine wpAnyH_ready (rs := [12]) (by kernel_rfl) (by simp) ?_
      refine AllReadyH.cons (o := { dst := some 72, op := Op.call { callee := Callee.value (Operand.func 25), args := #[Operand.tmp 61, Operand.tmp 71], argTypes := #[5, 22] }, type := 61, pos := "frame.go:426", after := #[{ on := 1, ground := Ground.data }, { on := 11, ground := Ground.data }], guard := none }) rfl (fun KK hK => ?_) AllReadyH.nil
      go_simp
      refine (CR.out _ _ (RP.out.below (K.out.trans (E0.out.mono K.out.size)))).mono ?_
      rintro e Y18x1 ⟨rfl, hy⟩
      have E1 := Lib.hid (E0.out.trans (hy.mono E0.out.size))
      have C1 := Lib.hid E1.out
      clear hy E0
      refine hK.out _ _ C1.out (fun _ => ?_)
      clear hK KK
      refine wpAnyH_mono (S' := (fun w' : World => Below Y18x1.heap.size Y18x1 w')) (fun w1 h => C1.out.trans (h.mono C1.out.size)) _ _ _ _ ?_
      clear C1
      try simp only [Act.put, List.setIfInBounds_toArray, List.set_cons_zero, List.set_cons_succ]
      refine wpAnyH_take (i := 13) (oi := { dst := some 59, op := Op.move (Operand.tmp 72), type := 61, pos := "frame.go:426", after := #[{ on := 12, ground := Ground.data }], guard := none }) (v := ?_) rfl (by kernel_rfl) (by kernel_rfl) (by kernel_rfl) (fun _ _ _ h => h) (Or.inl ⟨by rfl, ?_⟩) (Below.refl _ _) ?_
      rotate_left
      · (intro w1 hS; go_simp; try with_reducible rfl)
      simp only [Act.put, List.setIfInBounds_toArray, List.set_cons_zero, List.set_cons_succ]
      refine wpAnyH_take (i := 14) (oi := { dst := some 73, op := Op.extract (Operand.tmp 59) 0, type := 60, pos := "frame.go:426", after := #[{ on := 13, ground := Ground.data }], guard := none }) (v := ?_) rfl (by kernel_rfl) (by kernel_rfl) (by kernel_rfl) (fun _ _ _ h => h) (Or.inl ⟨by rfl, ?_⟩) (Below.refl _ _) ?_
      rotate_left
      · (intro w1 hS; go_simp; try with_reducible rfl)
      simp only [Act.put, List.setIfInBounds_toArray, List.set_cons_zero, List.set_cons_succ]
      refine wpAnyH_take (i := 15) (oi := { dst := some 74, op := Op.extract (Operand.tmp 59) 1, type := 3, pos := "frame.go:426", after := #[{ on := 13, ground := Ground.data }], guard := none }) (v := ?_) rfl (by kernel_rfl) (by kernel_rfl) (by kernel_rfl) (fun _ _ _ h => h) (Or.inl ⟨by rfl, ?_⟩) (Below.refl _ _) ?_
      rotate_left
      · (intro w1 hS; go_simp; try with_reducible rfl)
      simp only [Act.put, List.setIfInBounds_toArray, List.set_cons_zero, List.set_cons_succ]
      refine wpAnyH_take (i := 16) (oi := { dst := some 5, op := Op.assign (Operand.tmp 74), type := 3, pos := "frame.go:426", after := #[{ on := 15, ground := Ground.data }, { on := 12, ground := Ground.chain }, { on := 0, ground := Ground.phase }, { on := 1, ground := Ground.phase }, { on := 2, ground := Ground.phase }, { on := 3, ground := Ground.phase }, { on := 4, ground := Ground.phase }, { on := 5, ground := Ground.phase }, { on := 6, ground := Ground.phase }, { on := 7, ground := Ground.phase }, { on := 8, ground := Ground.phase }, { on := 9, ground := Ground.phase }, { on := 10, ground := Ground.phase }, { on := 11, ground := Ground.phase }, { on := 12, ground := Ground.phase }, { on := 13, ground := Ground.phase }, { on := 14, ground := Ground.phase }, { on := 15, ground := Ground.phase }], guard := none }) (v := ?_) rfl (by kernel_rfl) (by kernel_rfl) (by kernel_rfl) (fun _ _ _ h => h) (Or.inl ⟨by rfl, ?_⟩) (Below.refl _ _) ?_
      rotate_left
      · (intro w1 hS; go_simp; try with_reducible rfl)
      simp only [Act.put, List.setIfInBounds_toArray, List.set_cons_zero, List.set_cons_succ]
      refine wpAnyH_done (by kernel_rfl) ?_ _
      have hy := E1.out
      replace K := Lib.hid (K.out.trans (hy.mono K.out.size))
      replace LR := Lib.hid (row_under2 LR.out hy)
      replace HX := Lib.hid (HX.out.below hy HX.out.lt)
      clear hy E1
      by_cases hr2 : r2 = 0
      case neg =>
        have e : LS = LL ++ [(2, at0)] := by rw [HLS3.out, if_pos hr2]; rfl
        subst e
        have g0 : ((r2 : Int) != 0) = true := by simp; omega
        clear hr2
        go_wp2
        go_ret
        exact ⟨_, rfl, by rw [HLL.out]; exact LR.out, K.out⟩
      have wb1 := wa1.out
      have c2 := (HX.out.cell 2).trans H2.out
      rcases hpr with rfl | rfl
      · have e : LS = LL ++ [(2, at0)] ++ [(4, sg)] := by rw [HLS3.out, if_neg (fun h => h hr2)]; rfl
        subst e hr2
        clear HLS3 CR
        have L2 := (HX.out.cell 2).trans H2.out
        have c0 := (HX.out.cell 0).trans H0.out
        go_wp2_with (((with_reducible refine wpList_one_rec (o := ⟨some 87, .buildSlice 34 1 #[(0, Operand.tmp 86)], _, _, _, _⟩) ?lg6 34 46 (.tmp 86) ?lo6 { data := #[116, 99, 112] } (sg : Int) ?lx6 Try.underlying34 rec46 ?_); (case lg6 => rfl); (case lo6 => rfl); (case lx6 => rfl)))
        clear L2
        intro V11 hg6 hy hz6
        replace K := Lib.hid (K.out.trans (hy.mono K.out.size))
        replace LR := Lib.hid (row_under2 LR.out hy)
        replace HX := Lib.hid (HX.out.below hy HX.out.lt)
        clear hy
        have HG6 := Lib.hid hg6
        clear hg6
        clear c0
        go_wp2_with (((with_reducible refine wpList_app_rec (o := ⟨some 88, .call { callee := .builtin .append, args := #[Operand.tmp 81, Operand.tmp 87], argTypes := #[34, 34] }, _, _, _, _⟩) ?lg7 (.tmp 81) (.tmp 87) 34 46 ?lo7 Try.underlying34 rec46 w.heap.size x5 ((1 + 1) + 1) (([.string { data := #[101, 116, 104, 101, 114] }, .int .i64 0] ++ [.string { data := #[118, 108, 97, 110] }, .int .i64 14]) ++ [.string { data := #[105, 112, 118, 52] }, .int .i64 (at0 : Int)]) ?ls7 LR.out (Y18x1.heap.size) { data := #[116, 99, 112] } (sg : Int) ?lx7 HG6.out ?ln7 K.out.size ?_); (case lg7 => rfl); (case lo7 => rfl); (case ls7 => rfl); (case lx7 => rfl); (case ln7 => omega)))
        intro x7 V12 oz gz
        replace K := Lib.hid (below_grown K.out LR.out (Nat.le_refl _) K.out.size gz)
        replace HX := Lib.hid (blk_grown HX.out LR.out (by decide) gz)
        replace LR := Lib.hid oz
        clear oz gz
        go_wp2
        go_ret
        exact ⟨_, rfl, by rw [HLL.out]; exact LR.out, K.out⟩
      · have e : LS = LL ++ [(2, at0)] ++ [(5, sg)] := by rw [HLS3.out, if_neg (fun h => h hr2)]; rfl
        subst e hr2
        clear HLS3 CR
        have L3 := (HX.out.cell 2).trans H2.out
        have c0 := (HX.out.cell 0).trans H0.out
        go_wp2_with (((with_reducible refine wpList_one_rec (o := ⟨some 95, .buildSlice 34 1 #[(0, Operand.tmp 94)], _, _, _, _⟩) ?lg8 34 46 (.tmp 94) ?lo8 { data := #[117, 100, 112] } (sg : Int) ?lx8 Try.underlying34 rec46 ?_); (case lg8 => rfl); (case lo8 => rfl); (case lx8 => rfl)))
        clear L3
        intro V11 hg8 hy hz8
        replace K := Lib.hid (K.out.trans (hy.mono K.out.size))
        replace LR := Lib.hid (row_under2 LR.out hy)
        replace HX := Lib.hid (HX.out.below hy HX.out.lt)
        clear hy
        have HG8 := Lib.hid hg8
        clear hg8
        clear c0
        go_wp2_with (((with_reducible refine wpList_app_rec (o := ⟨some 96, .call { callee := .builtin .append, args := #[Operand.tmp 89, Operand.tmp 95], argTypes := #[34, 34] }, _, _, _, _⟩) ?lg9 (.tmp 89) (.tmp 95) 34 46 ?lo9 Try.underlying34 rec46 w.heap.size x5 ((1 + 1) + 1) (([.string { data := #[101, 116, 104, 101, 114] }, .int .i64 0] ++ [.string { data := #[118, 108, 97, 110] }, .int .i64 14]) ++ [.string { data := #[105, 112, 118, 52] }, .int .i64 (at0 : Int)]) ?ls9 LR.out (Y18x1.heap.size) { data := #[117, 100, 112] } (sg : Int) ?lx9 HG8.out ?ln9 K.out.size ?_); (case lg9 => rfl); (case lo9 => rfl); (case ls9 => rfl); (case lx9 => rfl); (case ln9 => omega)))
        intro x9 V12 oz gz
        replace K := Lib.hid (below_grown K.out LR.out (Nat.le_refl _) K.out.size gz)
        replace HX := Lib.hid (blk_grown HX.out LR.out (by decide) gz)
        replace LR := Lib.hid oz
        clear oz gz
        go_wp2
        go_ret
        exact ⟨_, rfl, by rw [HLL.out]; exact LR.out, K.out⟩
    · have hsx : six = true := by rw [HSX.out, hk]; rfl
      subst hsx hk
      obtain ⟨P, hP⟩ : ∃ P, P = (if cap = at0 then some (⟨b, off, none⟩ : Addr) else some ⟨b, off + at0, none⟩) := ⟨_, rfl⟩
      have hRT := HRT2.out
      rw [← hP] at hRT
      have RT := Lib.hid hRT
      have hP2 := hP.symm
      clear hRT hP HRT2 HSX
      have YH : Hid ((fhd true T).size = Array.size (#[Value.int .i64 0, .int .i64 0, .int .u8 0, .bool false, .int .u8 0, .int .u8 0, .int .u8 0, .int .u8 0, .int .u8 0, .int .u8 0, .int .u8 0, .int .u8 0, .int .u8 0, .int .u8 0, .int .u8 0, .int .u8 0, .int .u8 0, .int .u8 0, .int .u8 0, .int .u8 0, .bool false, .int .u8 0, .int .u8 0, .int .u8 0, .int .u8 0, .int .u8 0, .int .u8 0, .int .u8 0, .int .u8 0, .int .u8 0, .int .u8 0, .int .u8 0, .int .u8 0, .int .u8 0, .int .u8 0, .int .u8 0, .int .u8 0] : Array Value)) := fhd_size _ _
      have ZH := Lib.hid (i37.trans (congrArg some (fhd_size true T).symm))
      have AH := Lib.hid (fhd_all true T)
      have HHD := Lib.hid (fhd_yes true T)
      have CH := Lib.hid (show ∀ W z, Rd W z (nus .u8 T) → Calls Try.prog 24 #[z] W fun e w' => e = .returned (.tuple #[.agg (fhd true T), .int .i64 (fhr true T : Nat)]) ∧ Below W.heap.size W w' from fun W z h => C6.out W z h)
      clear C4 C6
      generalize hFH : fhd true T = H at *
      have HFH := Lib.hid hFH
      clear hFH
      generalize hFR : fhr true T = fr at *
      have HFR := Lib.hid hFR
      clear hFR
      have qX := K.out.size
      have hal := (Below.refl V5.heap.size V5).alloc (Nat.le_refl _) (.cells #[Value.int .i64 0, .int .i64 0, .int .u8 0, .bool false, .int .u8 0, .int .u8 0, .int .u8 0, .int .u8 0, .int .u8 0, .int .u8 0, .int .u8 0, .int .u8 0, .int .u8 0, .int .u8 0, .int .u8 0, .int .u8 0, .int .u8 0, .int .u8 0, .int .u8 0, .int .u8 0, .bool false, .int .u8 0, .int .u8 0, .int .u8 0, .int .u8 0, .int .u8 0, .int .u8 0, .int .u8 0, .int .u8 0, .int .u8 0, .int .u8 0, .int .u8 0, .int .u8 0, .int .u8 0, .int .u8 0, .int .u8 0, .int .u8 0] 56)
      replace K := Lib.hid (K.out.trans (hal.mono K.out.size))
      replace LR := Lib.hid (row_under2 LR.out hal)
      have HX := Lib.hid (Blk.new V5 56 #[Value.int .i64 0, .int .i64 0, .int .u8 0, .bool false, .int .u8 0, .int .u8 0, .int .u8 0, .int .u8 0, .int .u8 0, .int .u8 0, .int .u8 0, .int .u8 0, .int .u8 0, .int .u8 0, .int .u8 0, .int .u8 0, .int .u8 0, .int .u8 0, .int .u8 0, .int .u8 0, .bool false, .int .u8 0, .int .u8 0, .int .u8 0, .int .u8 0, .int .u8 0, .int .u8 0, .int .u8 0, .int .u8 0, .int .u8 0, .int .u8 0, .int .u8 0, .int .u8 0, .int .u8 0, .int .u8 0, .int .u8 0, .int .u8 0])
      clear hal
      go_wp2_with fail
      have hzV6 : Hid ((V5.alloc (.cells #[Value.int .i64 0, .int .i64 0, .int .u8 0, .bool false, .int .u8 0, .int .u8 0, .int .u8 0, .int .u8 0, .int .u8 0, .int .u8 0, .int .u8 0, .int .u8 0, .int .u8 0, .int .u8 0, .int .u8 0, .int .u8 0, .int .u8 0, .int .u8 0, .int .u8 0, .int .u8 0, .bool false, .int .u8 0, .int .u8 0, .int .u8 0, .int .u8 0, .int .u8 0, .int .u8 0, .int .u8 0, .int .u8 0, .int .u8 0, .int .u8 0, .int .u8 0, .int .u8 0, .int .u8 0, .int .u8 0, .int .u8 0, .int .u8 0] 56)).heap.size = V5.heap.size + 1) := by show _ = _; simp only [World.size_alloc]
      generalize (V5.alloc (.cells #[Value.int .i64 0, .int .i64 0, .int .u8 0, .bool false, .int .u8 0, .int .u8 0, .int .u8 0, .int .u8 0, .int .u8 0, .int .u8 0, .int .u8 0, .int .u8 0, .int .u8 0, .int .u8 0, .int .u8 0, .int .u8 0, .int .u8 0, .int .u8 0, .int .u8 0, .int .u8 0, .bool false, .int .u8 0, .int .u8 0, .int .u8 0, .int .u8 0, .int .u8 0, .int .u8 0, .int .u8 0, .int .u8 0, .int .u8 0, .int .u8 0, .int .u8 0, .int .u8 0, .int .u8 0, .int .u8 0, .int .u8 0, .int .u8 0] 56)) = V6 at *
      refine (CH.out _ _ (RT.out.below K.out)).mono ?_
      rintro e V7 ⟨rfl, hy⟩
      replace K := Lib.hid (K.out.trans (hy.mono K.out.size))
      replace LR := Lib.hid (row_under2 LR.out hy)
      replace HX := Lib.hid (HX.out.below hy HX.out.lt)
      clear hy
      go_wp2_with (((with_reducible refine wpList_blk_store (op := ⟨none, .store 56 (.tmp 7) (.tmp 42), _, _, _, _⟩) ?sg4 56 (.tmp 7) (.tmp 42) ?so4 (V5.heap.size) H ?sx4 ?sy4 HX.out YH.out ZH.out AH.out ?_); (case sg4 => rfl); (case so4 => rfl); (case sx4 => rfl); (case sy4 => rfl)))
      intro V8 hA hF hB
      replace K := Lib.hid (K.out.trans (hB _ (by omega)))
      replace LR := Lib.hid (row_far LR.out HX.out (by decide) hF)
      replace HX := Lib.hid hA
      clear hA hF hB
      by_cases hfr : fr = 0
      case neg =>
        have e : LS = LL := by rw [HLS2.out, if_pos hfr]
        subst e
        have g0 : ((fr : Int) != 0) = true := by simp; omega
        clear hfr
        go_wp2
        go_ret
        exact ⟨_, rfl, by rw [HLL.out]; exact LR.out, K.out⟩
      have HDD := HHD.out hfr
      have HLS3 := Lib.hid (HLS2.out.trans (if_neg (fun h => h hfr)))
      clear HLS2 HHD RT CH HFR hP2
      subst hfr
      have e1 : H = hcells (fS true T) (fL true T) (fP true T) (fA true T) (fB true T) := HFH.out.symm.trans HDD.hd
      have h20 := HDD.low
      have hmid := HDD.mid
      have hhigh := HDD.high
      have hpr := HDD.pr
      rw [HL.out] at hhigh
      clear HDD HFH HL
      generalize fS true T = s at *
      generalize fL true T = l at *
      generalize fP true T = p at *
      have H0 := Lib.hid (show H[0]? = some (.int .i64 (s : Int)) by rw [e1]; exact (hcells_get s l p _ _).1)
      have H1 := Lib.hid (show H[1]? = some (.int .i64 (l : Int)) by rw [e1]; exact (hcells_get s l p _ _).2.1)
      have H2 := Lib.hid (show H[2]? = some (.int .u8 (p : Int)) by rw [e1]; exact (hcells_get s l p _ _).2.2)
      obtain ⟨sg, hsg⟩ : ∃ x, x = at0 + s := ⟨_, rfl⟩
      obtain ⟨en, hen⟩ : ∃ x, x = at0 + l := ⟨_, rfl⟩
      have hpt := HPT.out
      rw [← hsg, show l - s = en - sg by omega] at hpt
      have hRP := subP HRS.out sg (en - sg) (by omega)
      rw [← hpt] at hRP
      rw [← hsg] at HLS3
      obtain ⟨P2, hP3⟩ : ∃ P, P = (if cap = sg then some (⟨b, off, none⟩ : Addr) else some ⟨b, off + sg, none⟩) := ⟨_, rfl⟩
      rw [← hP3] at hRP
      have RP := Lib.hid hRP
      have HP2 := Lib.hid hP3
      have CR := Lib.hid (fun (z : Value) (W : World) (h : Rd W z (nus .u8 PT)) => rread_any p z PT W h HBP.out)
      have wa1 := Lib.hid (show IntKind.i64.wrap ((at0 : Int) + (s : Int)) = (sg : Int) by rw [IntKind.wrap_i64]; omega)
      have wa2 := Lib.hid (show IntKind.i64.wrap ((at0 : Int) + (l : Int)) = (en : Int) by rw [IntKind.wrap_i64]; omega)
      have hse : sg ≤ en := by omega
      have hen2 : en ≤ n := by omega
      clear hRP hP3 HRS HPT e1 hpt hsg hen h20 hmid hhigh
      generalize rs7 p PT = RS at *
      generalize fs p PT = r2 at *
      go_wp2_with (((with_reducible refine wpList_one_rec (o := ⟨some 57, .buildSlice 34 1 #[(0, Operand.tmp 56)], _, _, _, _⟩) ?lg10 34 46 (.tmp 56) ?lo10 { data := #[105, 112, 118, 54] } (at0 : Int) ?lx10 Try.underlying34 rec46 ?_); (case lg10 => rfl); (case lo10 => rfl); (case lx10 => rfl)))
      intro V9 hg10 hy hz10
      replace K := Lib.hid (K.out.trans (hy.mono K.out.size))
      replace LR := Lib.hid (row_under2 LR.out hy)
      replace HX := Lib.hid (HX.out.below hy HX.out.lt)
      clear hy
      have HG10 := Lib.hid hg10
      clear hg10
      go_wp2_with (((with_reducible refine wpList_app_rec (o := ⟨some 58, .call { callee := .builtin .append, args := #[Operand.tmp 54, Operand.tmp 57], argTypes := #[34, 34] }, _, _, _, _⟩) ?lg11 (.tmp 54) (.tmp 57) 34 46 ?lo11 Try.underlying34 rec46 w.heap.size x3 (1 + 1) ([.string { data := #[101, 116, 104, 101, 114] }, .int .i64 0] ++ [.string { data := #[118, 108, 97, 110] }, .int .i64 14]) ?ls11 LR.out (V8.heap.size) { data := #[105, 112, 118, 54] } (at0 : Int) ?lx11 HG10.out ?ln11 K.out.size ?_); (case lg11 => rfl); (case lo11 => rfl); (case ls11 => rfl); (case lx11 => rfl); (case ln11 => omega)))
      intro x11 V10 oz gz
      replace K := Lib.hid (below_grown K.out LR.out (Nat.le_refl _) K.out.size gz)
      replace HX := Lib.hid (blk_grown HX.out LR.out (by decide) gz)
      replace LR := Lib.hid oz
      clear oz gz
      go_wp2_with fail
      refine wp_region_held (S := (fun w' : World => Below (V10.heap.size) V10 w')) (by kernel_rfl) ?_
      change wpAnyH _ _ _ _ _ _ _ _ V10.drew
      have hy : Below V10.heap.size V10 V10.drew := (Below.refl _ _).drew
      have hE0 : Below (V10.heap.size) V10 V10.drew := (Below.refl _ _).drew
      clear hy
      generalize V10.drew = Y18x0 at hE0  ⊢
      have E0 := Lib.hid hE0
      clear hE0
      refine wpAnyH_take (i := 0) (oi := { dst := some 60, op := Op.fieldAddr 56 (Operand.tmp 7) 2, type := 0, pos := "frame.go:426", after := #[], guard := none }) (v := ?_) rfl (by kernel_rfl) (by kernel_rfl) (by kernel_rfl) (fun _ _ _ h => h) (Or.inl ⟨by rfl, ?_⟩) E0.out ?_
      rotate_left
      · (intro w1 hS; go_simp; try with_reducible rfl)
      simp only [Act.put, List.setIfInBounds_toArray, List.set_cons_zero, List.set_cons_succ]
      refine wpAnyH_take (i := 1) (oi := { dst := some 61, op := Op.load 5 (Operand.tmp 60), type := 5, pos := "frame.go:426", after := #[{ on := 0, ground := Ground.data }], guard := none }) (v := ?_) rfl (by kernel_rfl) (by kernel_rfl) (by kernel_rfl) (fun _ _ _ h => h) (Or.inl ⟨by rfl, ?_⟩) E0.out ?_
      rotate_left
      · (intro w1 hS; have hW := hS; have q := ((HX.out.below hW HX.out.lt).cell 2).trans H2.out; clear hW hS; go_simp; try with_reducible rfl)
      simp only [Act.put, List.setIfInBounds_toArray, List.set_cons_zero, List.set_cons_succ]
      refine wpAnyH_take (i := 2) (oi := { dst := some 62, op := Op.move (Operand.tmp 0), type := 22, pos := "frame.go:426", after := #[], guard := none }) (v := ?_) rfl (by kernel_rfl) (by kernel_rfl) (by kernel_rfl) (fun _ _ _ h => h) (Or.inl ⟨by rfl, ?_⟩) E0.out ?_
      rotate_left
      · (intro w1 hS; go_simp; try with_reducible rfl)
      simp only [Act.put, List.setIfInBounds_toArray, List.set_cons_zero, List.set_cons_succ]
      refine wpAnyH_take (i := 3) (oi := { dst := some 63, op := Op.move (Operand.tmp 3), type := 3, pos := "frame.go:426", after := #[], guard := none }) (v := ?_) rfl (by kernel_rfl) (by kernel_rfl) (by kernel_rfl) (fun _ _ _ h => h) (Or.inl ⟨by rfl, ?_⟩) E0.out ?_
      rotate_left
      · (intro w1 hS; go_simp; try with_reducible rfl)
      simp only [Act.put, List.setIfInBounds_toArray, List.set_cons_zero, List.set_cons_succ]
      refine wpAnyH_take (i := 4) (oi := { dst := some 64, op := Op.fieldAddr 56 (Operand.tmp 7) 0, type := 0, pos := "frame.go:426", after := #[], guard := none }) (v := ?_) rfl (by kernel_rfl) (by kernel_rfl) (by kernel_rfl) (fun _ _ _ h => h) (Or.inl ⟨by rfl, ?_⟩) E0.out ?_
      rotate_left
      · (intro w1 hS; go_simp; try with_reducible rfl)
      simp only [Act.put, List.setIfInBounds_toArray, List.set_cons_zero, List.set_cons_succ]
      refine wpAnyH_take (i := 5) (oi := { dst := some 65, op := Op.load 3 (Operand.tmp 64), type := 3, pos := "frame.go:426", after := #[{ on := 4, ground := Ground.data }], guard := none }) (v := ?_) rfl (by kernel_rfl) (by kernel_rfl) (by kernel_rfl) (fun _ _ _ h => h) (Or.inl ⟨by rfl, ?_⟩) E0.out ?_
      rotate_left
      · (intro w1 hS; have hW := hS; have q := ((HX.out.below hW HX.out.lt).cell 0).trans H0.out; clear hW hS; go_simp; try with_reducible rfl)
      simp only [Act.put, List.setIfInBounds_toArray, List.set_cons_zero, List.set_cons_succ]
      refine wpAnyH_take (i := 6) (oi := { dst := some 66, op := Op.binOp BinOp.add 3 (Operand.tmp 63) (Operand.tmp 65) 3, type := 3, pos := "frame.go:426", after := #[{ on := 3, ground := Ground.data }, { on := 5, ground := Ground.data }], guard := none }) (v := ?_) rfl (by kernel_rfl) (by kernel_rfl) (by kernel_rfl) (fun _ _ _ h => h) (Or.inl ⟨by rfl, ?_⟩) E0.out ?_
      rotate_left
      · (intro w1 hS; have hW := hS; have q := wa1.out; clear hW hS; go_simp; try with_reducible rfl)
      simp only [Act.put, List.setIfInBounds_toArray, List.set_cons_zero, List.set_cons_succ]
      refine wpAnyH_take (i := 7) (oi := { dst := some 67, op := Op.move (Operand.tmp 3), type := 3, pos := "frame.go:426", after := #[], guard := none }) (v := ?_) rfl (by kernel_rfl) (by kernel_rfl) (by kernel_rfl) (fun _ _ _ h => h) (Or.inl ⟨by rfl, ?_⟩) E0.out ?_
      rotate_left
      · (intro w1 hS; go_simp; try with_reducible rfl)
      simp only [Act.put, List.setIfInBounds_toArray, List.set_cons_zero, List.set_cons_succ]
      refine wpAnyH_take (i := 8) (oi := { dst := some 68, op := Op.fieldAddr 56 (Operand.tmp 7) 1, type := 0, pos := "frame.go:426", after := #[], guard := none }) (v := ?_) rfl (by kernel_rfl) (by kernel_rfl) (by kernel_rfl) (fun _ _ _ h => h) (Or.inl ⟨by rfl, ?_⟩) E0.out ?_
      rotate_left
      · (intro w1 hS; go_simp; try with_reducible rfl)
      simp only [Act.put, List.setIfInBounds_toArray, List.set_cons_zero, List.set_cons_succ]
      refine wpAnyH_take (i := 9) (oi := { dst := some 69, op := Op.load 3 (Operand.tmp 68), type := 3, pos := "frame.go:426", after := #[{ on := 8, ground := Ground.data }], guard := none }) (v := ?_) rfl (by kernel_rfl) (by kernel_rfl) (by kernel_rfl) (fun _ _ _ h => h) (Or.inl ⟨by rfl, ?_⟩) E0.out ?_
      rotate_left
      · (intro w1 hS; have hW := hS; have q := ((HX.out.below hW HX.out.lt).cell 1).trans H1.out; clear hW hS; go_simp; try with_reducible rfl)
      simp only [Act.put, List.setIfInBounds_toArray, List.set_cons_zero, List.set_cons_succ]
      refine wpAnyH_take (i := 10) (oi := { dst := some 70, op := Op.binOp BinOp.add 3 (Operand.tmp 67) (Operand.tmp 69) 3, type := 3, pos := "frame.go:426", after := #[{ on := 7, ground := Ground.data }, { on := 9, ground := Ground.data }], guard := none }) (v := ?_) rfl (by kernel_rfl) (by kernel_rfl) (by kernel_rfl) (fun _ _ _ h => h) (Or.inl ⟨by rfl, ?_⟩) E0.out ?_
      rotate_left
      · (intro w1 hS; have hW := hS; have q := wa2.out; clear hW hS; go_simp; try with_reducible rfl)
      simp only [Act.put, List.setIfInBounds_toArray, List.set_cons_zero, List.set_cons_succ]
      refine wpAnyH_take (i := 11) (oi := { dst := some 71, op := Op.slice 22 (Operand.tmp 62) (some (Operand.tmp 66)) (some (Operand.tmp 70)) none, type := 22, pos := "frame.go:426", after := #[{ on := 2, ground := Ground.data }, { on := 6, ground := Ground.data }, { on := 10, ground := Ground.data }], guard := none }) (v := ?_) rfl (by kernel_rfl) (by kernel_rfl) (by kernel_rfl) (fun _ _ _ h => h) (Or.inl ⟨by rfl, ?_⟩) E0.out ?_
      rotate_left
      · (intro w1 hS; have hW := hS; have q : (sg : Int) ≤ (en : Int) := (by omega); have q3 : (en : Int) ≤ (cap : Int) := (by omega); have q2 := HP2.out.symm; clear hW hS; go_simp; try with_reducible rfl)
      simp only [Act.put, List.setIfInBounds_toArray, List.set_cons_zero, List.set_cons_succ]
      refine wpAnyH_ready (rs := [12]) (by kernel_rfl) (by simp) ?_
      refine AllReadyH.cons (o := { dst := some 72, op := Op.call { callee := Callee.value (Operand.func 25), args := #[Operand.tmp 61, Operand.tmp 71], argTypes := #[5, 22] }, type := 61, pos := "frame.go:426", after := #[{ on := 1, ground := Ground.data }, { on := 11, ground := Ground.data }], guard := none }) rfl (fun KK hK => ?_) AllReadyH.nil
      go_simp
      refine (CR.out _ _ (RP.out.below (K.out.trans (E0.out.mono K.out.size)))).mono ?_
      rintro e Y18x1 ⟨rfl, hy⟩
      have E1 := Lib.hid (E0.out.trans (hy.mono E0.out.size))
      have C1 := Lib.hid E1.out
      clear hy E0
      refine hK.out _ _ C1.out (fun _ => ?_)
      clear hK KK
      refine wpAnyH_mono (S' := (fun w' : World => Below Y18x1.heap.size Y18x1 w')) (fun w1 h => C1.out.trans (h.mono C1.out.size)) _ _ _ _ ?_
      clear C1
      try simp only [Act.put, List.setIfInBounds_toArray, List.set_cons_zero, List.set_cons_succ]
      refine wpAnyH_take (i := 13) (oi := { dst := some 59, op := Op.move (Operand.tmp 72), type := 61, pos := "frame.go:426", after := #[{ on := 12, ground := Ground.data }], guard := none }) (v := ?_) rfl (by kernel_rfl) (by kernel_rfl) (by kernel_rfl) (fun _ _ _ h => h) (Or.inl ⟨by rfl, ?_⟩) (Below.refl _ _) ?_
      rotate_left
      · (intro w1 hS; go_simp; try with_reducible rfl)
      simp only [Act.put, List.setIfInBounds_toArray, List.set_cons_zero, List.set_cons_succ]
      refine wpAnyH_take (i := 14) (oi := { dst := some 73, op := Op.extract (Operand.tmp 59) 0, type := 60, pos := "frame.go:426", after := #[{ on := 13, ground := Ground.data }], guard := none }) (v := ?_) rfl (by kernel_rfl) (by kernel_rfl) (by kernel_rfl) (fun _ _ _ h => h) (Or.inl ⟨by rfl, ?_⟩) (Below.refl _ _) ?_
      rotate_left
      · (intro w1 hS; go_simp; try with_reducible rfl)
      simp only [Act.put, List.setIfInBounds_toArray, List.set_cons_zero, List.set_cons_succ]
      refine wpAnyH_take (i := 15) (oi := { dst := some 74, op := Op.extract (Operand.tmp 59) 1, type := 3, pos := "frame.go:426", after := #[{ on := 13, ground := Ground.data }], guard := none }) (v := ?_) rfl (by kernel_rfl) (by kernel_rfl) (by kernel_rfl) (fun _ _ _ h => h) (Or.inl ⟨by rfl, ?_⟩) (Below.refl _ _) ?_
      rotate_left
      · (intro w1 hS; go_simp; try with_reducible rfl)
      simp only [Act.put, List.setIfInBounds_toArray, List.set_cons_zero, List.set_cons_succ]
      refine wpAnyH_take (i := 16) (oi := { dst := some 5, op := Op.assign (Operand.tmp 74), type := 3, pos := "frame.go:426", after := #[{ on := 15, ground := Ground.data }, { on := 12, ground := Ground.chain }, { on := 0, ground := Ground.phase }, { on := 1, ground := Ground.phase }, { on := 2, ground := Ground.phase }, { on := 3, ground := Ground.phase }, { on := 4, ground := Ground.phase }, { on := 5, ground := Ground.phase }, { on := 6, ground := Ground.phase }, { on := 7, ground := Ground.phase }, { on := 8, ground := Ground.phase }, { on := 9, ground := Ground.phase }, { on := 10, ground := Ground.phase }, { on := 11, ground := Ground.phase }, { on := 12, ground := Ground.phase }, { on := 13, ground := Ground.phase }, { on := 14, ground := Ground.phase }, { on := 15, ground := Ground.phase }], guard := none }) (v := ?_) rfl (by kernel_rfl) (by kernel_rfl) (by kernel_rfl) (fun _ _ _ h => h) (Or.inl ⟨by rfl, ?_⟩) (Below.refl _ _) ?_
      rotate_left
      · (intro w1 hS; go_simp; try with_reducible rfl)
      simp only [Act.put, List.setIfInBounds_toArray, List.set_cons_zero, List.set_cons_succ]
      refine wpAnyH_done (by kernel_rfl) ?_ _
      have hy := E1.out
      replace K := Lib.hid (K.out.trans (hy.mono K.out.size))
      replace LR := Lib.hid (row_under2 LR.out hy)
      replace HX := Lib.hid (HX.out.below hy HX.out.lt)
      clear hy E1
      by_cases hr2 : r2 = 0
      case neg =>
        have e : LS = LL ++ [(3, at0)] := by rw [HLS3.out, if_pos hr2]; rfl
        subst e
        have g0 : ((r2 : Int) != 0) = true := by simp; omega
        clear hr2
        go_wp2
        go_ret
        exact ⟨_, rfl, by rw [HLL.out]; exact LR.out, K.out⟩
      have wb1 := wa1.out
      have c2 := (HX.out.cell 2).trans H2.out
      rcases hpr with rfl | rfl
      · have e : LS = LL ++ [(3, at0)] ++ [(4, sg)] := by rw [HLS3.out, if_neg (fun h => h hr2)]; rfl
        subst e hr2
        clear HLS3 CR
        have L5 := (HX.out.cell 2).trans H2.out
        have c0 := (HX.out.cell 0).trans H0.out
        go_wp2_with (((with_reducible refine wpList_one_rec (o := ⟨some 87, .buildSlice 34 1 #[(0, Operand.tmp 86)], _, _, _, _⟩) ?lg12 34 46 (.tmp 86) ?lo12 { data := #[116, 99, 112] } (sg : Int) ?lx12 Try.underlying34 rec46 ?_); (case lg12 => rfl); (case lo12 => rfl); (case lx12 => rfl)))
        clear L5
        intro V11 hg12 hy hz12
        replace K := Lib.hid (K.out.trans (hy.mono K.out.size))
        replace LR := Lib.hid (row_under2 LR.out hy)
        replace HX := Lib.hid (HX.out.below hy HX.out.lt)
        clear hy
        have HG12 := Lib.hid hg12
        clear hg12
        clear c0
        go_wp2_with (((with_reducible refine wpList_app_rec (o := ⟨some 88, .call { callee := .builtin .append, args := #[Operand.tmp 81, Operand.tmp 87], argTypes := #[34, 34] }, _, _, _, _⟩) ?lg13 (.tmp 81) (.tmp 87) 34 46 ?lo13 Try.underlying34 rec46 w.heap.size x11 ((1 + 1) + 1) (([.string { data := #[101, 116, 104, 101, 114] }, .int .i64 0] ++ [.string { data := #[118, 108, 97, 110] }, .int .i64 14]) ++ [.string { data := #[105, 112, 118, 54] }, .int .i64 (at0 : Int)]) ?ls13 LR.out (Y18x1.heap.size) { data := #[116, 99, 112] } (sg : Int) ?lx13 HG12.out ?ln13 K.out.size ?_); (case lg13 => rfl); (case lo13 => rfl); (case ls13 => rfl); (case lx13 => rfl); (case ln13 => omega)))
        intro x13 V12 oz gz
        replace K := Lib.hid (below_grown K.out LR.out (Nat.le_refl _) K.out.size gz)
        replace HX := Lib.hid (blk_grown HX.out LR.out (by decide) gz)
        replace LR := Lib.hid oz
        clear oz gz
        go_wp2
        go_ret
        exact ⟨_, rfl, by rw [HLL.out]; exact LR.out, K.out⟩
      · have e : LS = LL ++ [(3, at0)] ++ [(5, sg)] := by rw [HLS3.out, if_neg (fun h => h hr2)]; rfl
        subst e hr2
        clear HLS3 CR
        have L6 := (HX.out.cell 2).trans H2.out
        have c0 := (HX.out.cell 0).trans H0.out
        go_wp2_with (((with_reducible refine wpList_one_rec (o := ⟨some 95, .buildSlice 34 1 #[(0, Operand.tmp 94)], _, _, _, _⟩) ?lg14 34 46 (.tmp 94) ?lo14 { data := #[117, 100, 112] } (sg : Int) ?lx14 Try.underlying34 rec46 ?_); (case lg14 => rfl); (case lo14 => rfl); (case lx14 => rfl)))
        clear L6
        intro V11 hg14 hy hz14
        replace K := Lib.hid (K.out.trans (hy.mono K.out.size))
        replace LR := Lib.hid (row_under2 LR.out hy)
        replace HX := Lib.hid (HX.out.below hy HX.out.lt)
        clear hy
        have HG14 := Lib.hid hg14
        clear hg14
        clear c0
        go_wp2_with (((with_reducible refine wpList_app_rec (o := ⟨some 96, .call { callee := .builtin .append, args := #[Operand.tmp 89, Operand.tmp 95], argTypes := #[34, 34] }, _, _, _, _⟩) ?lg15 (.tmp 89) (.tmp 95) 34 46 ?lo15 Try.underlying34 rec46 w.heap.size x11 ((1 + 1) + 1) (([.string { data := #[101, 116, 104, 101, 114] }, .int .i64 0] ++ [.string { data := #[118, 108, 97, 110] }, .int .i64 14]) ++ [.string { data := #[105, 112, 118, 54] }, .int .i64 (at0 : Int)]) ?ls15 LR.out (Y18x1.heap.size) { data := #[117, 100, 112] } (sg : Int) ?lx15 HG14.out ?ln15 K.out.size ?_); (case lg15 => rfl); (case lo15 => rfl); (case ls15 => rfl); (case lx15 => rfl); (case ln15 => omega)))
        intro x15 V12 oz gz
        replace K := Lib.hid (below_grown K.out LR.out (Nat.le_refl _) K.out.size gz)
        replace HX := Lib.hid (blk_grown HX.out LR.out (by decide) gz)
        replace LR := Lib.hid oz
        clear oz gz
        go_wp2
        go_ret
        exact ⟨_, rfl, by rw [HLL.out]; exact LR.out, K.out⟩
  case neg =>
    have HLL := Lib.hid (show LL = [(0, 0)] by rw [L0.out, if_neg htg])
    have gtg : ((u2 zs 12 : Int) == 33024) = false := by rw [beq_eq_false_iff_ne]; omega
    generalize u2 zs 12 = uu at *
    clear L0 htg
    by_cases hr0 : r = 0
    case neg =>
      have e : LS = LL := by rw [HLS1.out, if_pos hr0]
      subst e
      have g0 : ((r : Int) != 0) = true := by simp; omega
      clear hr0
      go_wp2
      go_ret
      exact ⟨_, rfl, by rw [HLL.out]; exact LR.out, K.out⟩
    have HLS2 := Lib.hid (HLS1.out.trans (if_neg (fun h => h hr0)))
    obtain ⟨hat1, hat2, hk⟩ := HN0.out hr0
    have HRT2 := Lib.hid (HRT.out hr0)
    clear HLS1 HN0 HRT
    subst hr0
    rcases hk with hk | hk
    · have hsx : six = false := by rw [HSX.out, hk]; rfl
      subst hsx hk
      obtain ⟨P, hP⟩ : ∃ P, P = (if cap = at0 then some (⟨b, off, none⟩ : Addr) else some ⟨b, off + at0, none⟩) := ⟨_, rfl⟩
      have hRT := HRT2.out
      rw [← hP] at hRT
      have RT := Lib.hid hRT
      have hP2 := hP.symm
      clear hRT hP HRT2 HSX
      have YH : Hid ((fhd false T).size = Array.size (#[Value.int .i64 0, .int .i64 0, .int .u8 0, .bool false, .int .u8 0, .int .u8 0, .int .u8 0, .int .u8 0, .int .u8 0, .int .u8 0, .int .u8 0, .int .u8 0, .int .u8 0, .int .u8 0, .int .u8 0, .int .u8 0, .int .u8 0, .int .u8 0, .int .u8 0, .int .u8 0, .bool false, .int .u8 0, .int .u8 0, .int .u8 0, .int .u8 0, .int .u8 0, .int .u8 0, .int .u8 0, .int .u8 0, .int .u8 0, .int .u8 0, .int .u8 0, .int .u8 0, .int .u8 0, .int .u8 0, .int .u8 0, .int .u8 0] : Array Value)) := fhd_size _ _
      have ZH := Lib.hid (i37.trans (congrArg some (fhd_size false T).symm))
      have AH := Lib.hid (fhd_all false T)
      have HHD := Lib.hid (fhd_yes false T)
      have CH := Lib.hid (show ∀ W z, Rd W z (nus .u8 T) → Calls Try.prog 23 #[z] W fun e w' => e = .returned (.tuple #[.agg (fhd false T), .int .i64 (fhr false T : Nat)]) ∧ Below W.heap.size W w' from fun W z h => C4.out W z h)
      clear C4 C6
      generalize hFH : fhd false T = H at *
      have HFH := Lib.hid hFH
      clear hFH
      generalize hFR : fhr false T = fr at *
      have HFR := Lib.hid hFR
      clear hFR
      have qX := K.out.size
      have hal := (Below.refl V3.heap.size V3).alloc (Nat.le_refl _) (.cells #[Value.int .i64 0, .int .i64 0, .int .u8 0, .bool false, .int .u8 0, .int .u8 0, .int .u8 0, .int .u8 0, .int .u8 0, .int .u8 0, .int .u8 0, .int .u8 0, .int .u8 0, .int .u8 0, .int .u8 0, .int .u8 0, .int .u8 0, .int .u8 0, .int .u8 0, .int .u8 0, .bool false, .int .u8 0, .int .u8 0, .int .u8 0, .int .u8 0, .int .u8 0, .int .u8 0, .int .u8 0, .int .u8 0, .int .u8 0, .int .u8 0, .int .u8 0, .int .u8 0, .int .u8 0, .int .u8 0, .int .u8 0, .int .u8 0] 56)
      replace K := Lib.hid (K.out.trans (hal.mono K.out.size))
      replace LR := Lib.hid (row_under2 LR.out hal)
      have HX := Lib.hid (Blk.new V3 56 #[Value.int .i64 0, .int .i64 0, .int .u8 0, .bool false, .int .u8 0, .int .u8 0, .int .u8 0, .int .u8 0, .int .u8 0, .int .u8 0, .int .u8 0, .int .u8 0, .int .u8 0, .int .u8 0, .int .u8 0, .int .u8 0, .int .u8 0, .int .u8 0, .int .u8 0, .int .u8 0, .bool false, .int .u8 0, .int .u8 0, .int .u8 0, .int .u8 0, .int .u8 0, .int .u8 0, .int .u8 0, .int .u8 0, .int .u8 0, .int .u8 0, .int .u8 0, .int .u8 0, .int .u8 0, .int .u8 0, .int .u8 0, .int .u8 0])
      clear hal
      go_wp2_with fail
      have hzV4 : Hid ((V3.alloc (.cells #[Value.int .i64 0, .int .i64 0, .int .u8 0, .bool false, .int .u8 0, .int .u8 0, .int .u8 0, .int .u8 0, .int .u8 0, .int .u8 0, .int .u8 0, .int .u8 0, .int .u8 0, .int .u8 0, .int .u8 0, .int .u8 0, .int .u8 0, .int .u8 0, .int .u8 0, .int .u8 0, .bool false, .int .u8 0, .int .u8 0, .int .u8 0, .int .u8 0, .int .u8 0, .int .u8 0, .int .u8 0, .int .u8 0, .int .u8 0, .int .u8 0, .int .u8 0, .int .u8 0, .int .u8 0, .int .u8 0, .int .u8 0, .int .u8 0] 56)).heap.size = V3.heap.size + 1) := by show _ = _; simp only [World.size_alloc]
      generalize (V3.alloc (.cells #[Value.int .i64 0, .int .i64 0, .int .u8 0, .bool false, .int .u8 0, .int .u8 0, .int .u8 0, .int .u8 0, .int .u8 0, .int .u8 0, .int .u8 0, .int .u8 0, .int .u8 0, .int .u8 0, .int .u8 0, .int .u8 0, .int .u8 0, .int .u8 0, .int .u8 0, .int .u8 0, .bool false, .int .u8 0, .int .u8 0, .int .u8 0, .int .u8 0, .int .u8 0, .int .u8 0, .int .u8 0, .int .u8 0, .int .u8 0, .int .u8 0, .int .u8 0, .int .u8 0, .int .u8 0, .int .u8 0, .int .u8 0, .int .u8 0] 56)) = V4 at *
      refine (CH.out _ _ (RT.out.below K.out)).mono ?_
      rintro e V5 ⟨rfl, hy⟩
      replace K := Lib.hid (K.out.trans (hy.mono K.out.size))
      replace LR := Lib.hid (row_under2 LR.out hy)
      replace HX := Lib.hid (HX.out.below hy HX.out.lt)
      clear hy
      go_wp2_with (((with_reducible refine wpList_blk_store (op := ⟨none, .store 56 (.tmp 7) (.tmp 35), _, _, _, _⟩) ?sg7 56 (.tmp 7) (.tmp 35) ?so7 (V3.heap.size) H ?sx7 ?sy7 HX.out YH.out ZH.out AH.out ?_); (case sg7 => rfl); (case so7 => rfl); (case sx7 => rfl); (case sy7 => rfl)))
      intro V6 hA hF hB
      replace K := Lib.hid (K.out.trans (hB _ (by omega)))
      replace LR := Lib.hid (row_far LR.out HX.out (by decide) hF)
      replace HX := Lib.hid hA
      clear hA hF hB
      by_cases hfr : fr = 0
      case neg =>
        have e : LS = LL := by rw [HLS2.out, if_pos hfr]
        subst e
        have g0 : ((fr : Int) != 0) = true := by simp; omega
        clear hfr
        go_wp2
        go_ret
        exact ⟨_, rfl, by rw [HLL.out]; exact LR.out, K.out⟩
      have HDD := HHD.out hfr
      have HLS3 := Lib.hid (HLS2.out.trans (if_neg (fun h => h hfr)))
      clear HLS2 HHD RT CH HFR hP2
      subst hfr
      have e1 : H = hcells (fS false T) (fL false T) (fP false T) (fA false T) (fB false T) := HFH.out.symm.trans HDD.hd
      have h20 := HDD.low
      have hmid := HDD.mid
      have hhigh := HDD.high
      have hpr := HDD.pr
      rw [HL.out] at hhigh
      clear HDD HFH HL
      generalize fS false T = s at *
      generalize fL false T = l at *
      generalize fP false T = p at *
      have H0 := Lib.hid (show H[0]? = some (.int .i64 (s : Int)) by rw [e1]; exact (hcells_get s l p _ _).1)
      have H1 := Lib.hid (show H[1]? = some (.int .i64 (l : Int)) by rw [e1]; exact (hcells_get s l p _ _).2.1)
      have H2 := Lib.hid (show H[2]? = some (.int .u8 (p : Int)) by rw [e1]; exact (hcells_get s l p _ _).2.2)
      obtain ⟨sg, hsg⟩ : ∃ x, x = at0 + s := ⟨_, rfl⟩
      obtain ⟨en, hen⟩ : ∃ x, x = at0 + l := ⟨_, rfl⟩
      have hpt := HPT.out
      rw [← hsg, show l - s = en - sg by omega] at hpt
      have hRP := subP HRS.out sg (en - sg) (by omega)
      rw [← hpt] at hRP
      rw [← hsg] at HLS3
      obtain ⟨P2, hP3⟩ : ∃ P, P = (if cap = sg then some (⟨b, off, none⟩ : Addr) else some ⟨b, off + sg, none⟩) := ⟨_, rfl⟩
      rw [← hP3] at hRP
      have RP := Lib.hid hRP
      have HP2 := Lib.hid hP3
      have CR := Lib.hid (fun (z : Value) (W : World) (h : Rd W z (nus .u8 PT)) => rread_any p z PT W h HBP.out)
      have wa1 := Lib.hid (show IntKind.i64.wrap ((at0 : Int) + (s : Int)) = (sg : Int) by rw [IntKind.wrap_i64]; omega)
      have wa2 := Lib.hid (show IntKind.i64.wrap ((at0 : Int) + (l : Int)) = (en : Int) by rw [IntKind.wrap_i64]; omega)
      have hse : sg ≤ en := by omega
      have hen2 : en ≤ n := by omega
      clear hRP hP3 HRS HPT e1 hpt hsg hen h20 hmid hhigh
      generalize rs7 p PT = RS at *
      generalize fs p PT = r2 at *
      go_wp2_with (((with_reducible refine wpList_one_rec (o := ⟨some 52, .buildSlice 34 1 #[(0, Operand.tmp 51)], _, _, _, _⟩) ?lg16 34 46 (.tmp 51) ?lo16 { data := #[105, 112, 118, 52] } (at0 : Int) ?lx16 Try.underlying34 rec46 ?_); (case lg16 => rfl); (case lo16 => rfl); (case lx16 => rfl)))
      intro V7 hg16 hy hz16
      replace K := Lib.hid (K.out.trans (hy.mono K.out.size))
      replace LR := Lib.hid (row_under2 LR.out hy)
      replace HX := Lib.hid (HX.out.below hy HX.out.lt)
      clear hy
      have HG16 := Lib.hid hg16
      clear hg16
      go_wp2_with (((with_reducible refine wpList_app_rec (o := ⟨some 53, .call { callee := .builtin .append, args := #[Operand.tmp 49, Operand.tmp 52], argTypes := #[34, 34] }, _, _, _, _⟩) ?lg17 (.tmp 49) (.tmp 52) 34 46 ?lo17 Try.underlying34 rec46 w.heap.size (.slice (some ⟨V1.heap.size, 0, none⟩) 1 1) 1 [.string { data := #[101, 116, 104, 101, 114] }, .int .i64 0] ?ls17 LR.out (V6.heap.size) { data := #[105, 112, 118, 52] } (at0 : Int) ?lx17 HG16.out ?ln17 K.out.size ?_); (case lg17 => rfl); (case lo17 => rfl); (case ls17 => rfl); (case lx17 => rfl); (case ln17 => omega)))
      intro x17 V8 oz gz
      replace K := Lib.hid (below_grown K.out LR.out (Nat.le_refl _) K.out.size gz)
      replace HX := Lib.hid (blk_grown HX.out LR.out (by decide) gz)
      replace LR := Lib.hid oz
      clear oz gz
      go_wp2_with fail
      refine wp_region_held (S := (fun w' : World => Below (V8.heap.size) V8 w')) (by kernel_rfl) ?_
      change wpAnyH _ _ _ _ _ _ _ _ V8.drew
      have hy : Below V8.heap.size V8 V8.drew := (Below.refl _ _).drew
      have hE0 : Below (V8.heap.size) V8 V8.drew := (Below.refl _ _).drew
      clear hy
      generalize V8.drew = Y18x0 at hE0  ⊢
      have E0 := Lib.hid hE0
      clear hE0
      refine wpAnyH_take (i := 0) (oi := { dst := some 60, op := Op.fieldAddr 56 (Operand.tmp 7) 2, type := 0, pos := "frame.go:426", after := #[], guard := none }) (v := ?_) rfl (by kernel_rfl) (by kernel_rfl) (by kernel_rfl) (fun _ _ _ h => h) (Or.inl ⟨by rfl, ?_⟩) E0.out ?_
      rotate_left
      · (intro w1 hS; go_simp; try with_reducible rfl)
      simp only [Act.put, List.setIfInBounds_toArray, List.set_cons_zero, List.set_cons_succ]
      refine wpAnyH_take (i := 1) (oi := { dst := some 61, op := Op.load 5 (Operand.tmp 60), type := 5, pos := "frame.go:426", after := #[{ on := 0, ground := Ground.data }], guard := none }) (v := ?_) rfl (by kernel_rfl) (by kernel_rfl) (by kernel_rfl) (fun _ _ _ h => h) (Or.inl ⟨by rfl, ?_⟩) E0.out ?_
      rotate_left
      · (intro w1 hS; have hW := hS; have q := ((HX.out.below hW HX.out.lt).cell 2).trans H2.out; clear hW hS; go_simp; try with_reducible rfl)
      simp only [Act.put, List.setIfInBounds_toArray, List.set_cons_zero, List.set_cons_succ]
      refine wpAnyH_take (i := 2) (oi := { dst := some 62, op := Op.move (Operand.tmp 0), type := 22, pos := "frame.go:426", after := #[], guard := none }) (v := ?_) rfl (by kernel_rfl) (by kernel_rfl) (by kernel_rfl) (fun _ _ _ h => h) (Or.inl ⟨by rfl, ?_⟩) E0.out ?_
      rotate_left
      · (intro w1 hS; go_simp; try with_reducible rfl)
      simp only [Act.put, List.setIfInBounds_toArray, List.set_cons_zero, List.set_cons_succ]
      refine wpAnyH_take (i := 3) (oi := { dst := some 63, op := Op.move (Operand.tmp 3), type := 3, pos := "frame.go:426", after := #[], guard := none }) (v := ?_) rfl (by kernel_rfl) (by kernel_rfl) (by kernel_rfl) (fun _ _ _ h => h) (Or.inl ⟨by rfl, ?_⟩) E0.out ?_
      rotate_left
      · (intro w1 hS; go_simp; try with_reducible rfl)
      simp only [Act.put, List.setIfInBounds_toArray, List.set_cons_zero, List.set_cons_succ]
      refine wpAnyH_take (i := 4) (oi := { dst := some 64, op := Op.fieldAddr 56 (Operand.tmp 7) 0, type := 0, pos := "frame.go:426", after := #[], guard := none }) (v := ?_) rfl (by kernel_rfl) (by kernel_rfl) (by kernel_rfl) (fun _ _ _ h => h) (Or.inl ⟨by rfl, ?_⟩) E0.out ?_
      rotate_left
      · (intro w1 hS; go_simp; try with_reducible rfl)
      simp only [Act.put, List.setIfInBounds_toArray, List.set_cons_zero, List.set_cons_succ]
      refine wpAnyH_take (i := 5) (oi := { dst := some 65, op := Op.load 3 (Operand.tmp 64), type := 3, pos := "frame.go:426", after := #[{ on := 4, ground := Ground.data }], guard := none }) (v := ?_) rfl (by kernel_rfl) (by kernel_rfl) (by kernel_rfl) (fun _ _ _ h => h) (Or.inl ⟨by rfl, ?_⟩) E0.out ?_
      rotate_left
      · (intro w1 hS; have hW := hS; have q := ((HX.out.below hW HX.out.lt).cell 0).trans H0.out; clear hW hS; go_simp; try with_reducible rfl)
      simp only [Act.put, List.setIfInBounds_toArray, List.set_cons_zero, List.set_cons_succ]
      refine wpAnyH_take (i := 6) (oi := { dst := some 66, op := Op.binOp BinOp.add 3 (Operand.tmp 63) (Operand.tmp 65) 3, type := 3, pos := "frame.go:426", after := #[{ on := 3, ground := Ground.data }, { on := 5, ground := Ground.data }], guard := none }) (v := ?_) rfl (by kernel_rfl) (by kernel_rfl) (by kernel_rfl) (fun _ _ _ h => h) (Or.inl ⟨by rfl, ?_⟩) E0.out ?_
      rotate_left
      · (intro w1 hS; have hW := hS; have q := wa1.out; clear hW hS; go_simp; try with_reducible rfl)
      simp only [Act.put, List.setIfInBounds_toArray, List.set_cons_zero, List.set_cons_succ]
      refine wpAnyH_take (i := 7) (oi := { dst := some 67, op := Op.move (Operand.tmp 3), type := 3, pos := "frame.go:426", after := #[], guard := none }) (v := ?_) rfl (by kernel_rfl) (by kernel_rfl) (by kernel_rfl) (fun _ _ _ h => h) (Or.inl ⟨by rfl, ?_⟩) E0.out ?_
      rotate_left
      · (intro w1 hS; go_simp; try with_reducible rfl)
      simp only [Act.put, List.setIfInBounds_toArray, List.set_cons_zero, List.set_cons_succ]
      refine wpAnyH_take (i := 8) (oi := { dst := some 68, op := Op.fieldAddr 56 (Operand.tmp 7) 1, type := 0, pos := "frame.go:426", after := #[], guard := none }) (v := ?_) rfl (by kernel_rfl) (by kernel_rfl) (by kernel_rfl) (fun _ _ _ h => h) (Or.inl ⟨by rfl, ?_⟩) E0.out ?_
      rotate_left
      · (intro w1 hS; go_simp; try with_reducible rfl)
      simp only [Act.put, List.setIfInBounds_toArray, List.set_cons_zero, List.set_cons_succ]
      refine wpAnyH_take (i := 9) (oi := { dst := some 69, op := Op.load 3 (Operand.tmp 68), type := 3, pos := "frame.go:426", after := #[{ on := 8, ground := Ground.data }], guard := none }) (v := ?_) rfl (by kernel_rfl) (by kernel_rfl) (by kernel_rfl) (fun _ _ _ h => h) (Or.inl ⟨by rfl, ?_⟩) E0.out ?_
      rotate_left
      · (intro w1 hS; have hW := hS; have q := ((HX.out.below hW HX.out.lt).cell 1).trans H1.out; clear hW hS; go_simp; try with_reducible rfl)
      simp only [Act.put, List.setIfInBounds_toArray, List.set_cons_zero, List.set_cons_succ]
      refine wpAnyH_take (i := 10) (oi := { dst := some 70, op := Op.binOp BinOp.add 3 (Operand.tmp 67) (Operand.tmp 69) 3, type := 3, pos := "frame.go:426", after := #[{ on := 7, ground := Ground.data }, { on := 9, ground := Ground.data }], guard := none }) (v := ?_) rfl (by kernel_rfl) (by kernel_rfl) (by kernel_rfl) (fun _ _ _ h => h) (Or.inl ⟨by rfl, ?_⟩) E0.out ?_
      rotate_left
      · (intro w1 hS; have hW := hS; have q := wa2.out; clear hW hS; go_simp; try with_reducible rfl)
      simp only [Act.put, List.setIfInBounds_toArray, List.set_cons_zero, List.set_cons_succ]
      refine wpAnyH_take (i := 11) (oi := { dst := some 71, op := Op.slice 22 (Operand.tmp 62) (some (Operand.tmp 66)) (some (Operand.tmp 70)) none, type := 22, pos := "frame.go:426", after := #[{ on := 2, ground := Ground.data }, { on := 6, ground := Ground.data }, { on := 10, ground := Ground.data }], guard := none }) (v := ?_) rfl (by kernel_rfl) (by kernel_rfl) (by kernel_rfl) (fun _ _ _ h => h) (Or.inl ⟨by rfl, ?_⟩) E0.out ?_
      rotate_left
      · (intro w1 hS; have hW := hS; have q : (sg : Int) ≤ (en : Int) := (by omega); have q3 : (en : Int) ≤ (cap : Int) := (by omega); have q2 := HP2.out.symm; clear hW hS; go_simp; try with_reducible rfl)
      simp only [Act.put, List.setIfInBounds_toArray, List.set_cons_zero, List.set_cons_succ]
      refine wpAnyH_ready (rs := [12]) (by kernel_rfl) (by simp) ?_
      refine AllReadyH.cons (o := { dst := some 72, op := Op.call { callee := Callee.value (Operand.func 25), args := #[Operand.tmp 61, Operand.tmp 71], argTypes := #[5, 22] }, type := 61, pos := "frame.go:426", after := #[{ on := 1, ground := Ground.data }, { on := 11, ground := Ground.data }], guard := none }) rfl (fun KK hK => ?_) AllReadyH.nil
      go_simp
      refine (CR.out _ _ (RP.out.below (K.out.trans (E0.out.mono K.out.size)))).mono ?_
      rintro e Y18x1 ⟨rfl, hy⟩
      have E1 := Lib.hid (E0.out.trans (hy.mono E0.out.size))
      have C1 := Lib.hid E1.out
      clear hy E0
      refine hK.out _ _ C1.out (fun _ => ?_)
      clear hK KK
      refine wpAnyH_mono (S' := (fun w' : World => Below Y18x1.heap.size Y18x1 w')) (fun w1 h => C1.out.trans (h.mono C1.out.size)) _ _ _ _ ?_
      clear C1
      try simp only [Act.put, List.setIfInBounds_toArray, List.set_cons_zero, List.set_cons_succ]
      refine wpAnyH_take (i := 13) (oi := { dst := some 59, op := Op.move (Operand.tmp 72), type := 61, pos := "frame.go:426", after := #[{ on := 12, ground := Ground.data }], guard := none }) (v := ?_) rfl (by kernel_rfl) (by kernel_rfl) (by kernel_rfl) (fun _ _ _ h => h) (Or.inl ⟨by rfl, ?_⟩) (Below.refl _ _) ?_
      rotate_left
      · (intro w1 hS; go_simp; try with_reducible rfl)
      simp only [Act.put, List.setIfInBounds_toArray, List.set_cons_zero, List.set_cons_succ]
      refine wpAnyH_take (i := 14) (oi := { dst := some 73, op := Op.extract (Operand.tmp 59) 0, type := 60, pos := "frame.go:426", after := #[{ on := 13, ground := Ground.data }], guard := none }) (v := ?_) rfl (by kernel_rfl) (by kernel_rfl) (by kernel_rfl) (fun _ _ _ h => h) (Or.inl ⟨by rfl, ?_⟩) (Below.refl _ _) ?_
      rotate_left
      · (intro w1 hS; go_simp; try with_reducible rfl)
      simp only [Act.put, List.setIfInBounds_toArray, List.set_cons_zero, List.set_cons_succ]
      refine wpAnyH_take (i := 15) (oi := { dst := some 74, op := Op.extract (Operand.tmp 59) 1, type := 3, pos := "frame.go:426", after := #[{ on := 13, ground := Ground.data }], guard := none }) (v := ?_) rfl (by kernel_rfl) (by kernel_rfl) (by kernel_rfl) (fun _ _ _ h => h) (Or.inl ⟨by rfl, ?_⟩) (Below.refl _ _) ?_
      rotate_left
      · (intro w1 hS; go_simp; try with_reducible rfl)
      simp only [Act.put, List.setIfInBounds_toArray, List.set_cons_zero, List.set_cons_succ]
      refine wpAnyH_take (i := 16) (oi := { dst := some 5, op := Op.assign (Operand.tmp 74), type := 3, pos := "frame.go:426", after := #[{ on := 15, ground := Ground.data }, { on := 12, ground := Ground.chain }, { on := 0, ground := Ground.phase }, { on := 1, ground := Ground.phase }, { on := 2, ground := Ground.phase }, { on := 3, ground := Ground.phase }, { on := 4, ground := Ground.phase }, { on := 5, ground := Ground.phase }, { on := 6, ground := Ground.phase }, { on := 7, ground := Ground.phase }, { on := 8, ground := Ground.phase }, { on := 9, ground := Ground.phase }, { on := 10, ground := Ground.phase }, { on := 11, ground := Ground.phase }, { on := 12, ground := Ground.phase }, { on := 13, ground := Ground.phase }, { on := 14, ground := Ground.phase }, { on := 15, ground := Ground.phase }], guard := none }) (v := ?_) rfl (by kernel_rfl) (by kernel_rfl) (by kernel_rfl) (fun _ _ _ h => h) (Or.inl ⟨by rfl, ?_⟩) (Below.refl _ _) ?_
      rotate_left
      · (intro w1 hS; go_simp; try with_reducible rfl)
      simp only [Act.put, List.setIfInBounds_toArray, List.set_cons_zero, List.set_cons_succ]
      refine wpAnyH_done (by kernel_rfl) ?_ _
      have hy := E1.out
      replace K := Lib.hid (K.out.trans (hy.mono K.out.size))
      replace LR := Lib.hid (row_under2 LR.out hy)
      replace HX := Lib.hid (HX.out.below hy HX.out.lt)
      clear hy E1
      by_cases hr2 : r2 = 0
      case neg =>
        have e : LS = LL ++ [(2, at0)] := by rw [HLS3.out, if_pos hr2]; rfl
        subst e
        have g0 : ((r2 : Int) != 0) = true := by simp; omega
        clear hr2
        go_wp2
        go_ret
        exact ⟨_, rfl, by rw [HLL.out]; exact LR.out, K.out⟩
      have wb1 := wa1.out
      have c2 := (HX.out.cell 2).trans H2.out
      rcases hpr with rfl | rfl
      · have e : LS = LL ++ [(2, at0)] ++ [(4, sg)] := by rw [HLS3.out, if_neg (fun h => h hr2)]; rfl
        subst e hr2
        clear HLS3 CR
        have L8 := (HX.out.cell 2).trans H2.out
        have c0 := (HX.out.cell 0).trans H0.out
        go_wp2_with (((with_reducible refine wpList_one_rec (o := ⟨some 87, .buildSlice 34 1 #[(0, Operand.tmp 86)], _, _, _, _⟩) ?lg18 34 46 (.tmp 86) ?lo18 { data := #[116, 99, 112] } (sg : Int) ?lx18 Try.underlying34 rec46 ?_); (case lg18 => rfl); (case lo18 => rfl); (case lx18 => rfl)))
        clear L8
        intro V9 hg18 hy hz18
        replace K := Lib.hid (K.out.trans (hy.mono K.out.size))
        replace LR := Lib.hid (row_under2 LR.out hy)
        replace HX := Lib.hid (HX.out.below hy HX.out.lt)
        clear hy
        have HG18 := Lib.hid hg18
        clear hg18
        clear c0
        go_wp2_with (((with_reducible refine wpList_app_rec (o := ⟨some 88, .call { callee := .builtin .append, args := #[Operand.tmp 81, Operand.tmp 87], argTypes := #[34, 34] }, _, _, _, _⟩) ?lg19 (.tmp 81) (.tmp 87) 34 46 ?lo19 Try.underlying34 rec46 w.heap.size x17 (1 + 1) ([.string { data := #[101, 116, 104, 101, 114] }, .int .i64 0] ++ [.string { data := #[105, 112, 118, 52] }, .int .i64 (at0 : Int)]) ?ls19 LR.out (Y18x1.heap.size) { data := #[116, 99, 112] } (sg : Int) ?lx19 HG18.out ?ln19 K.out.size ?_); (case lg19 => rfl); (case lo19 => rfl); (case ls19 => rfl); (case lx19 => rfl); (case ln19 => omega)))
        intro x19 V10 oz gz
        replace K := Lib.hid (below_grown K.out LR.out (Nat.le_refl _) K.out.size gz)
        replace HX := Lib.hid (blk_grown HX.out LR.out (by decide) gz)
        replace LR := Lib.hid oz
        clear oz gz
        go_wp2
        go_ret
        exact ⟨_, rfl, by rw [HLL.out]; exact LR.out, K.out⟩
      · have e : LS = LL ++ [(2, at0)] ++ [(5, sg)] := by rw [HLS3.out, if_neg (fun h => h hr2)]; rfl
        subst e hr2
        clear HLS3 CR
        have L9 := (HX.out.cell 2).trans H2.out
        have c0 := (HX.out.cell 0).trans H0.out
        go_wp2_with (((with_reducible refine wpList_one_rec (o := ⟨some 95, .buildSlice 34 1 #[(0, Operand.tmp 94)], _, _, _, _⟩) ?lg20 34 46 (.tmp 94) ?lo20 { data := #[117, 100, 112] } (sg : Int) ?lx20 Try.underlying34 rec46 ?_); (case lg20 => rfl); (case lo20 => rfl); (case lx20 => rfl)))
        clear L9
        intro V9 hg20 hy hz20
        replace K := Lib.hid (K.out.trans (hy.mono K.out.size))
        replace LR := Lib.hid (row_under2 LR.out hy)
        replace HX := Lib.hid (HX.out.below hy HX.out.lt)
        clear hy
        have HG20 := Lib.hid hg20
        clear hg20
        clear c0
        go_wp2_with (((with_reducible refine wpList_app_rec (o := ⟨some 96, .call { callee := .builtin .append, args := #[Operand.tmp 89, Operand.tmp 95], argTypes := #[34, 34] }, _, _, _, _⟩) ?lg21 (.tmp 89) (.tmp 95) 34 46 ?lo21 Try.underlying34 rec46 w.heap.size x17 (1 + 1) ([.string { data := #[101, 116, 104, 101, 114] }, .int .i64 0] ++ [.string { data := #[105, 112, 118, 52] }, .int .i64 (at0 : Int)]) ?ls21 LR.out (Y18x1.heap.size) { data := #[117, 100, 112] } (sg : Int) ?lx21 HG20.out ?ln21 K.out.size ?_); (case lg21 => rfl); (case lo21 => rfl); (case ls21 => rfl); (case lx21 => rfl); (case ln21 => omega)))
        intro x21 V10 oz gz
        replace K := Lib.hid (below_grown K.out LR.out (Nat.le_refl _) K.out.size gz)
        replace HX := Lib.hid (blk_grown HX.out LR.out (by decide) gz)
        replace LR := Lib.hid oz
        clear oz gz
        go_wp2
        go_ret
        exact ⟨_, rfl, by rw [HLL.out]; exact LR.out, K.out⟩
    · have hsx : six = true := by rw [HSX.out, hk]; rfl
      subst hsx hk
      obtain ⟨P, hP⟩ : ∃ P, P = (if cap = at0 then some (⟨b, off, none⟩ : Addr) else some ⟨b, off + at0, none⟩) := ⟨_, rfl⟩
      have hRT := HRT2.out
      rw [← hP] at hRT
      have RT := Lib.hid hRT
      have hP2 := hP.symm
      clear hRT hP HRT2 HSX
      have YH : Hid ((fhd true T).size = Array.size (#[Value.int .i64 0, .int .i64 0, .int .u8 0, .bool false, .int .u8 0, .int .u8 0, .int .u8 0, .int .u8 0, .int .u8 0, .int .u8 0, .int .u8 0, .int .u8 0, .int .u8 0, .int .u8 0, .int .u8 0, .int .u8 0, .int .u8 0, .int .u8 0, .int .u8 0, .int .u8 0, .bool false, .int .u8 0, .int .u8 0, .int .u8 0, .int .u8 0, .int .u8 0, .int .u8 0, .int .u8 0, .int .u8 0, .int .u8 0, .int .u8 0, .int .u8 0, .int .u8 0, .int .u8 0, .int .u8 0, .int .u8 0, .int .u8 0] : Array Value)) := fhd_size _ _
      have ZH := Lib.hid (i37.trans (congrArg some (fhd_size true T).symm))
      have AH := Lib.hid (fhd_all true T)
      have HHD := Lib.hid (fhd_yes true T)
      have CH := Lib.hid (show ∀ W z, Rd W z (nus .u8 T) → Calls Try.prog 24 #[z] W fun e w' => e = .returned (.tuple #[.agg (fhd true T), .int .i64 (fhr true T : Nat)]) ∧ Below W.heap.size W w' from fun W z h => C6.out W z h)
      clear C4 C6
      generalize hFH : fhd true T = H at *
      have HFH := Lib.hid hFH
      clear hFH
      generalize hFR : fhr true T = fr at *
      have HFR := Lib.hid hFR
      clear hFR
      have qX := K.out.size
      have hal := (Below.refl V3.heap.size V3).alloc (Nat.le_refl _) (.cells #[Value.int .i64 0, .int .i64 0, .int .u8 0, .bool false, .int .u8 0, .int .u8 0, .int .u8 0, .int .u8 0, .int .u8 0, .int .u8 0, .int .u8 0, .int .u8 0, .int .u8 0, .int .u8 0, .int .u8 0, .int .u8 0, .int .u8 0, .int .u8 0, .int .u8 0, .int .u8 0, .bool false, .int .u8 0, .int .u8 0, .int .u8 0, .int .u8 0, .int .u8 0, .int .u8 0, .int .u8 0, .int .u8 0, .int .u8 0, .int .u8 0, .int .u8 0, .int .u8 0, .int .u8 0, .int .u8 0, .int .u8 0, .int .u8 0] 56)
      replace K := Lib.hid (K.out.trans (hal.mono K.out.size))
      replace LR := Lib.hid (row_under2 LR.out hal)
      have HX := Lib.hid (Blk.new V3 56 #[Value.int .i64 0, .int .i64 0, .int .u8 0, .bool false, .int .u8 0, .int .u8 0, .int .u8 0, .int .u8 0, .int .u8 0, .int .u8 0, .int .u8 0, .int .u8 0, .int .u8 0, .int .u8 0, .int .u8 0, .int .u8 0, .int .u8 0, .int .u8 0, .int .u8 0, .int .u8 0, .bool false, .int .u8 0, .int .u8 0, .int .u8 0, .int .u8 0, .int .u8 0, .int .u8 0, .int .u8 0, .int .u8 0, .int .u8 0, .int .u8 0, .int .u8 0, .int .u8 0, .int .u8 0, .int .u8 0, .int .u8 0, .int .u8 0])
      clear hal
      go_wp2_with fail
      have hzV4 : Hid ((V3.alloc (.cells #[Value.int .i64 0, .int .i64 0, .int .u8 0, .bool false, .int .u8 0, .int .u8 0, .int .u8 0, .int .u8 0, .int .u8 0, .int .u8 0, .int .u8 0, .int .u8 0, .int .u8 0, .int .u8 0, .int .u8 0, .int .u8 0, .int .u8 0, .int .u8 0, .int .u8 0, .int .u8 0, .bool false, .int .u8 0, .int .u8 0, .int .u8 0, .int .u8 0, .int .u8 0, .int .u8 0, .int .u8 0, .int .u8 0, .int .u8 0, .int .u8 0, .int .u8 0, .int .u8 0, .int .u8 0, .int .u8 0, .int .u8 0, .int .u8 0] 56)).heap.size = V3.heap.size + 1) := by show _ = _; simp only [World.size_alloc]
      generalize (V3.alloc (.cells #[Value.int .i64 0, .int .i64 0, .int .u8 0, .bool false, .int .u8 0, .int .u8 0, .int .u8 0, .int .u8 0, .int .u8 0, .int .u8 0, .int .u8 0, .int .u8 0, .int .u8 0, .int .u8 0, .int .u8 0, .int .u8 0, .int .u8 0, .int .u8 0, .int .u8 0, .int .u8 0, .bool false, .int .u8 0, .int .u8 0, .int .u8 0, .int .u8 0, .int .u8 0, .int .u8 0, .int .u8 0, .int .u8 0, .int .u8 0, .int .u8 0, .int .u8 0, .int .u8 0, .int .u8 0, .int .u8 0, .int .u8 0, .int .u8 0] 56)) = V4 at *
      refine (CH.out _ _ (RT.out.below K.out)).mono ?_
      rintro e V5 ⟨rfl, hy⟩
      replace K := Lib.hid (K.out.trans (hy.mono K.out.size))
      replace LR := Lib.hid (row_under2 LR.out hy)
      replace HX := Lib.hid (HX.out.below hy HX.out.lt)
      clear hy
      go_wp2_with (((with_reducible refine wpList_blk_store (op := ⟨none, .store 56 (.tmp 7) (.tmp 42), _, _, _, _⟩) ?sg10 56 (.tmp 7) (.tmp 42) ?so10 (V3.heap.size) H ?sx10 ?sy10 HX.out YH.out ZH.out AH.out ?_); (case sg10 => rfl); (case so10 => rfl); (case sx10 => rfl); (case sy10 => rfl)))
      intro V6 hA hF hB
      replace K := Lib.hid (K.out.trans (hB _ (by omega)))
      replace LR := Lib.hid (row_far LR.out HX.out (by decide) hF)
      replace HX := Lib.hid hA
      clear hA hF hB
      by_cases hfr : fr = 0
      case neg =>
        have e : LS = LL := by rw [HLS2.out, if_pos hfr]
        subst e
        have g0 : ((fr : Int) != 0) = true := by simp; omega
        clear hfr
        go_wp2
        go_ret
        exact ⟨_, rfl, by rw [HLL.out]; exact LR.out, K.out⟩
      have HDD := HHD.out hfr
      have HLS3 := Lib.hid (HLS2.out.trans (if_neg (fun h => h hfr)))
      clear HLS2 HHD RT CH HFR hP2
      subst hfr
      have e1 : H = hcells (fS true T) (fL true T) (fP true T) (fA true T) (fB true T) := HFH.out.symm.trans HDD.hd
      have h20 := HDD.low
      have hmid := HDD.mid
      have hhigh := HDD.high
      have hpr := HDD.pr
      rw [HL.out] at hhigh
      clear HDD HFH HL
      generalize fS true T = s at *
      generalize fL true T = l at *
      generalize fP true T = p at *
      have H0 := Lib.hid (show H[0]? = some (.int .i64 (s : Int)) by rw [e1]; exact (hcells_get s l p _ _).1)
      have H1 := Lib.hid (show H[1]? = some (.int .i64 (l : Int)) by rw [e1]; exact (hcells_get s l p _ _).2.1)
      have H2 := Lib.hid (show H[2]? = some (.int .u8 (p : Int)) by rw [e1]; exact (hcells_get s l p _ _).2.2)
      obtain ⟨sg, hsg⟩ : ∃ x, x = at0 + s := ⟨_, rfl⟩
      obtain ⟨en, hen⟩ : ∃ x, x = at0 + l := ⟨_, rfl⟩
      have hpt := HPT.out
      rw [← hsg, show l - s = en - sg by omega] at hpt
      have hRP := subP HRS.out sg (en - sg) (by omega)
      rw [← hpt] at hRP
      rw [← hsg] at HLS3
      obtain ⟨P2, hP3⟩ : ∃ P, P = (if cap = sg then some (⟨b, off, none⟩ : Addr) else some ⟨b, off + sg, none⟩) := ⟨_, rfl⟩
      rw [← hP3] at hRP
      have RP := Lib.hid hRP
      have HP2 := Lib.hid hP3
      have CR := Lib.hid (fun (z : Value) (W : World) (h : Rd W z (nus .u8 PT)) => rread_any p z PT W h HBP.out)
      have wa1 := Lib.hid (show IntKind.i64.wrap ((at0 : Int) + (s : Int)) = (sg : Int) by rw [IntKind.wrap_i64]; omega)
      have wa2 := Lib.hid (show IntKind.i64.wrap ((at0 : Int) + (l : Int)) = (en : Int) by rw [IntKind.wrap_i64]; omega)
      have hse : sg ≤ en := by omega
      have hen2 : en ≤ n := by omega
      clear hRP hP3 HRS HPT e1 hpt hsg hen h20 hmid hhigh
      generalize rs7 p PT = RS at *
      generalize fs p PT = r2 at *
      go_wp2_with (((with_reducible refine wpList_one_rec (o := ⟨some 57, .buildSlice 34 1 #[(0, Operand.tmp 56)], _, _, _, _⟩) ?lg22 34 46 (.tmp 56) ?lo22 { data := #[105, 112, 118, 54] } (at0 : Int) ?lx22 Try.underlying34 rec46 ?_); (case lg22 => rfl); (case lo22 => rfl); (case lx22 => rfl)))
      intro V7 hg22 hy hz22
      replace K := Lib.hid (K.out.trans (hy.mono K.out.size))
      replace LR := Lib.hid (row_under2 LR.out hy)
      replace HX := Lib.hid (HX.out.below hy HX.out.lt)
      clear hy
      have HG22 := Lib.hid hg22
      clear hg22
      go_wp2_with (((with_reducible refine wpList_app_rec (o := ⟨some 58, .call { callee := .builtin .append, args := #[Operand.tmp 54, Operand.tmp 57], argTypes := #[34, 34] }, _, _, _, _⟩) ?lg23 (.tmp 54) (.tmp 57) 34 46 ?lo23 Try.underlying34 rec46 w.heap.size (.slice (some ⟨V1.heap.size, 0, none⟩) 1 1) 1 [.string { data := #[101, 116, 104, 101, 114] }, .int .i64 0] ?ls23 LR.out (V6.heap.size) { data := #[105, 112, 118, 54] } (at0 : Int) ?lx23 HG22.out ?ln23 K.out.size ?_); (case lg23 => rfl); (case lo23 => rfl); (case ls23 => rfl); (case lx23 => rfl); (case ln23 => omega)))
      intro x23 V8 oz gz
      replace K := Lib.hid (below_grown K.out LR.out (Nat.le_refl _) K.out.size gz)
      replace HX := Lib.hid (blk_grown HX.out LR.out (by decide) gz)
      replace LR := Lib.hid oz
      clear oz gz
      go_wp2_with fail
      refine wp_region_held (S := (fun w' : World => Below (V8.heap.size) V8 w')) (by kernel_rfl) ?_
      change wpAnyH _ _ _ _ _ _ _ _ V8.drew
      have hy : Below V8.heap.size V8 V8.drew := (Below.refl _ _).drew
      have hE0 : Below (V8.heap.size) V8 V8.drew := (Below.refl _ _).drew
      clear hy
      generalize V8.drew = Y18x0 at hE0  ⊢
      have E0 := Lib.hid hE0
      clear hE0
      refine wpAnyH_take (i := 0) (oi := { dst := some 60, op := Op.fieldAddr 56 (Operand.tmp 7) 2, type := 0, pos := "frame.go:426", after := #[], guard := none }) (v := ?_) rfl (by kernel_rfl) (by kernel_rfl) (by kernel_rfl) (fun _ _ _ h => h) (Or.inl ⟨by rfl, ?_⟩) E0.out ?_
      rotate_left
      · (intro w1 hS; go_simp; try with_reducible rfl)
      simp only [Act.put, List.setIfInBounds_toArray, List.set_cons_zero, List.set_cons_succ]
      refine wpAnyH_take (i := 1) (oi := { dst := some 61, op := Op.load 5 (Operand.tmp 60), type := 5, pos := "frame.go:426", after := #[{ on := 0, ground := Ground.data }], guard := none }) (v := ?_) rfl (by kernel_rfl) (by kernel_rfl) (by kernel_rfl) (fun _ _ _ h => h) (Or.inl ⟨by rfl, ?_⟩) E0.out ?_
      rotate_left
      · (intro w1 hS; have hW := hS; have q := ((HX.out.below hW HX.out.lt).cell 2).trans H2.out; clear hW hS; go_simp; try with_reducible rfl)
      simp only [Act.put, List.setIfInBounds_toArray, List.set_cons_zero, List.set_cons_succ]
      refine wpAnyH_take (i := 2) (oi := { dst := some 62, op := Op.move (Operand.tmp 0), type := 22, pos := "frame.go:426", after := #[], guard := none }) (v := ?_) rfl (by kernel_rfl) (by kernel_rfl) (by kernel_rfl) (fun _ _ _ h => h) (Or.inl ⟨by rfl, ?_⟩) E0.out ?_
      rotate_left
      · (intro w1 hS; go_simp; try with_reducible rfl)
      simp only [Act.put, List.setIfInBounds_toArray, List.set_cons_zero, List.set_cons_succ]
      refine wpAnyH_take (i := 3) (oi := { dst := some 63, op := Op.move (Operand.tmp 3), type := 3, pos := "frame.go:426", after := #[], guard := none }) (v := ?_) rfl (by kernel_rfl) (by kernel_rfl) (by kernel_rfl) (fun _ _ _ h => h) (Or.inl ⟨by rfl, ?_⟩) E0.out ?_
      rotate_left
      · (intro w1 hS; go_simp; try with_reducible rfl)
      simp only [Act.put, List.setIfInBounds_toArray, List.set_cons_zero, List.set_cons_succ]
      refine wpAnyH_take (i := 4) (oi := { dst := some 64, op := Op.fieldAddr 56 (Operand.tmp 7) 0, type := 0, pos := "frame.go:426", after := #[], guard := none }) (v := ?_) rfl (by kernel_rfl) (by kernel_rfl) (by kernel_rfl) (fun _ _ _ h => h) (Or.inl ⟨by rfl, ?_⟩) E0.out ?_
      rotate_left
      · (intro w1 hS; go_simp; try with_reducible rfl)
      simp only [Act.put, List.setIfInBounds_toArray, List.set_cons_zero, List.set_cons_succ]
      refine wpAnyH_take (i := 5) (oi := { dst := some 65, op := Op.load 3 (Operand.tmp 64), type := 3, pos := "frame.go:426", after := #[{ on := 4, ground := Ground.data }], guard := none }) (v := ?_) rfl (by kernel_rfl) (by kernel_rfl) (by kernel_rfl) (fun _ _ _ h => h) (Or.inl ⟨by rfl, ?_⟩) E0.out ?_
      rotate_left
      · (intro w1 hS; have hW := hS; have q := ((HX.out.below hW HX.out.lt).cell 0).trans H0.out; clear hW hS; go_simp; try with_reducible rfl)
      simp only [Act.put, List.setIfInBounds_toArray, List.set_cons_zero, List.set_cons_succ]
      refine wpAnyH_take (i := 6) (oi := { dst := some 66, op := Op.binOp BinOp.add 3 (Operand.tmp 63) (Operand.tmp 65) 3, type := 3, pos := "frame.go:426", after := #[{ on := 3, ground := Ground.data }, { on := 5, ground := Ground.data }], guard := none }) (v := ?_) rfl (by kernel_rfl) (by kernel_rfl) (by kernel_rfl) (fun _ _ _ h => h) (Or.inl ⟨by rfl, ?_⟩) E0.out ?_
      rotate_left
      · (intro w1 hS; have hW := hS; have q := wa1.out; clear hW hS; go_simp; try with_reducible rfl)
      simp only [Act.put, List.setIfInBounds_toArray, List.set_cons_zero, List.set_cons_succ]
      refine wpAnyH_take (i := 7) (oi := { dst := some 67, op := Op.move (Operand.tmp 3), type := 3, pos := "frame.go:426", after := #[], guard := none }) (v := ?_) rfl (by kernel_rfl) (by kernel_rfl) (by kernel_rfl) (fun _ _ _ h => h) (Or.inl ⟨by rfl, ?_⟩) E0.out ?_
      rotate_left
      · (intro w1 hS; go_simp; try with_reducible rfl)
      simp only [Act.put, List.setIfInBounds_toArray, List.set_cons_zero, List.set_cons_succ]
      refine wpAnyH_take (i := 8) (oi := { dst := some 68, op := Op.fieldAddr 56 (Operand.tmp 7) 1, type := 0, pos := "frame.go:426", after := #[], guard := none }) (v := ?_) rfl (by kernel_rfl) (by kernel_rfl) (by kernel_rfl) (fun _ _ _ h => h) (Or.inl ⟨by rfl, ?_⟩) E0.out ?_
      rotate_left
      · (intro w1 hS; go_simp; try with_reducible rfl)
      simp only [Act.put, List.setIfInBounds_toArray, List.set_cons_zero, List.set_cons_succ]
      refine wpAnyH_take (i := 9) (oi := { dst := some 69, op := Op.load 3 (Operand.tmp 68), type := 3, pos := "frame.go:426", after := #[{ on := 8, ground := Ground.data }], guard := none }) (v := ?_) rfl (by kernel_rfl) (by kernel_rfl) (by kernel_rfl) (fun _ _ _ h => h) (Or.inl ⟨by rfl, ?_⟩) E0.out ?_
      rotate_left
      · (intro w1 hS; have hW := hS; have q := ((HX.out.below hW HX.out.lt).cell 1).trans H1.out; clear hW hS; go_simp; try with_reducible rfl)
      simp only [Act.put, List.setIfInBounds_toArray, List.set_cons_zero, List.set_cons_succ]
      refine wpAnyH_take (i := 10) (oi := { dst := some 70, op := Op.binOp BinOp.add 3 (Operand.tmp 67) (Operand.tmp 69) 3, type := 3, pos := "frame.go:426", after := #[{ on := 7, ground := Ground.data }, { on := 9, ground := Ground.data }], guard := none }) (v := ?_) rfl (by kernel_rfl) (by kernel_rfl) (by kernel_rfl) (fun _ _ _ h => h) (Or.inl ⟨by rfl, ?_⟩) E0.out ?_
      rotate_left
      · (intro w1 hS; have hW := hS; have q := wa2.out; clear hW hS; go_simp; try with_reducible rfl)
      simp only [Act.put, List.setIfInBounds_toArray, List.set_cons_zero, List.set_cons_succ]
      refine wpAnyH_take (i := 11) (oi := { dst := some 71, op := Op.slice 22 (Operand.tmp 62) (some (Operand.tmp 66)) (some (Operand.tmp 70)) none, type := 22, pos := "frame.go:426", after := #[{ on := 2, ground := Ground.data }, { on := 6, ground := Ground.data }, { on := 10, ground := Ground.data }], guard := none }) (v := ?_) rfl (by kernel_rfl) (by kernel_rfl) (by kernel_rfl) (fun _ _ _ h => h) (Or.inl ⟨by rfl, ?_⟩) E0.out ?_
      rotate_left
      · (intro w1 hS; have hW := hS; have q : (sg : Int) ≤ (en : Int) := (by omega); have q3 : (en : Int) ≤ (cap : Int) := (by omega); have q2 := HP2.out.symm; clear hW hS; go_simp; try with_reducible rfl)
      simp only [Act.put, List.setIfInBounds_toArray, List.set_cons_zero, List.set_cons_succ]
      refine wpAnyH_ready (rs := [12]) (by kernel_rfl) (by simp) ?_
      refine AllReadyH.cons (o := { dst := some 72, op := Op.call { callee := Callee.value (Operand.func 25), args := #[Operand.tmp 61, Operand.tmp 71], argTypes := #[5, 22] }, type := 61, pos := "frame.go:426", after := #[{ on := 1, ground := Ground.data }, { on := 11, ground := Ground.data }], guard := none }) rfl (fun KK hK => ?_) AllReadyH.nil
      go_simp
      refine (CR.out _ _ (RP.out.below (K.out.trans (E0.out.mono K.out.size)))).mono ?_
      rintro e Y18x1 ⟨rfl, hy⟩
      have E1 := Lib.hid (E0.out.trans (hy.mono E0.out.size))
      have C1 := Lib.hid E1.out
      clear hy E0
      refine hK.out _ _ C1.out (fun _ => ?_)
      clear hK KK
      refine wpAnyH_mono (S' := (fun w' : World => Below Y18x1.heap.size Y18x1 w')) (fun w1 h => C1.out.trans (h.mono C1.out.size)) _ _ _ _ ?_
      clear C1
      try simp only [Act.put, List.setIfInBounds_toArray, List.set_cons_zero, List.set_cons_succ]
      refine wpAnyH_take (i := 13) (oi := { dst := some 59, op := Op.move (Operand.tmp 72), type := 61, pos := "frame.go:426", after := #[{ on := 12, ground := Ground.data }], guard := none }) (v := ?_) rfl (by kernel_rfl) (by kernel_rfl) (by kernel_rfl) (fun _ _ _ h => h) (Or.inl ⟨by rfl, ?_⟩) (Below.refl _ _) ?_
      rotate_left
      · (intro w1 hS; go_simp; try with_reducible rfl)
      simp only [Act.put, List.setIfInBounds_toArray, List.set_cons_zero, List.set_cons_succ]
      refine wpAnyH_take (i := 14) (oi := { dst := some 73, op := Op.extract (Operand.tmp 59) 0, type := 60, pos := "frame.go:426", after := #[{ on := 13, ground := Ground.data }], guard := none }) (v := ?_) rfl (by kernel_rfl) (by kernel_rfl) (by kernel_rfl) (fun _ _ _ h => h) (Or.inl ⟨by rfl, ?_⟩) (Below.refl _ _) ?_
      rotate_left
      · (intro w1 hS; go_simp; try with_reducible rfl)
      simp only [Act.put, List.setIfInBounds_toArray, List.set_cons_zero, List.set_cons_succ]
      refine wpAnyH_take (i := 15) (oi := { dst := some 74, op := Op.extract (Operand.tmp 59) 1, type := 3, pos := "frame.go:426", after := #[{ on := 13, ground := Ground.data }], guard := none }) (v := ?_) rfl (by kernel_rfl) (by kernel_rfl) (by kernel_rfl) (fun _ _ _ h => h) (Or.inl ⟨by rfl, ?_⟩) (Below.refl _ _) ?_
      rotate_left
      · (intro w1 hS; go_simp; try with_reducible rfl)
      simp only [Act.put, List.setIfInBounds_toArray, List.set_cons_zero, List.set_cons_succ]
      refine wpAnyH_take (i := 16) (oi := { dst := some 5, op := Op.assign (Operand.tmp 74), type := 3, pos := "frame.go:426", after := #[{ on := 15, ground := Ground.data }, { on := 12, ground := Ground.chain }, { on := 0, ground := Ground.phase }, { on := 1, ground := Ground.phase }, { on := 2, ground := Ground.phase }, { on := 3, ground := Ground.phase }, { on := 4, ground := Ground.phase }, { on := 5, ground := Ground.phase }, { on := 6, ground := Ground.phase }, { on := 7, ground := Ground.phase }, { on := 8, ground := Ground.phase }, { on := 9, ground := Ground.phase }, { on := 10, ground := Ground.phase }, { on := 11, ground := Ground.phase }, { on := 12, ground := Ground.phase }, { on := 13, ground := Ground.phase }, { on := 14, ground := Ground.phase }, { on := 15, ground := Ground.phase }], guard := none }) (v := ?_) rfl (by kernel_rfl) (by kernel_rfl) (by kernel_rfl) (fun _ _ _ h => h) (Or.inl ⟨by rfl, ?_⟩) (Below.refl _ _) ?_
      rotate_left
      · (intro w1 hS; go_simp; try with_reducible rfl)
      simp only [Act.put, List.setIfInBounds_toArray, List.set_cons_zero, List.set_cons_succ]
      refine wpAnyH_done (by kernel_rfl) ?_ _
      have hy := E1.out
      replace K := Lib.hid (K.out.trans (hy.mono K.out.size))
      replace LR := Lib.hid (row_under2 LR.out hy)
      replace HX := Lib.hid (HX.out.below hy HX.out.lt)
      clear hy E1
      by_cases hr2 : r2 = 0
      case neg =>
        have e : LS = LL ++ [(3, at0)] := by rw [HLS3.out, if_pos hr2]; rfl
        subst e
        have g0 : ((r2 : Int) != 0) = true := by simp; omega
        clear hr2
        go_wp2
        go_ret
        exact ⟨_, rfl, by rw [HLL.out]; exact LR.out, K.out⟩
      have wb1 := wa1.out
      have c2 := (HX.out.cell 2).trans H2.out
      rcases hpr with rfl | rfl
      · have e : LS = LL ++ [(3, at0)] ++ [(4, sg)] := by rw [HLS3.out, if_neg (fun h => h hr2)]; rfl
        subst e hr2
        clear HLS3 CR
        have L11 := (HX.out.cell 2).trans H2.out
        have c0 := (HX.out.cell 0).trans H0.out
        go_wp2_with (((with_reducible refine wpList_one_rec (o := ⟨some 87, .buildSlice 34 1 #[(0, Operand.tmp 86)], _, _, _, _⟩) ?lg24 34 46 (.tmp 86) ?lo24 { data := #[116, 99, 112] } (sg : Int) ?lx24 Try.underlying34 rec46 ?_); (case lg24 => rfl); (case lo24 => rfl); (case lx24 => rfl)))
        clear L11
        intro V9 hg24 hy hz24
        replace K := Lib.hid (K.out.trans (hy.mono K.out.size))
        replace LR := Lib.hid (row_under2 LR.out hy)
        replace HX := Lib.hid (HX.out.below hy HX.out.lt)
        clear hy
        have HG24 := Lib.hid hg24
        clear hg24
        clear c0
        go_wp2_with (((with_reducible refine wpList_app_rec (o := ⟨some 88, .call { callee := .builtin .append, args := #[Operand.tmp 81, Operand.tmp 87], argTypes := #[34, 34] }, _, _, _, _⟩) ?lg25 (.tmp 81) (.tmp 87) 34 46 ?lo25 Try.underlying34 rec46 w.heap.size x23 (1 + 1) ([.string { data := #[101, 116, 104, 101, 114] }, .int .i64 0] ++ [.string { data := #[105, 112, 118, 54] }, .int .i64 (at0 : Int)]) ?ls25 LR.out (Y18x1.heap.size) { data := #[116, 99, 112] } (sg : Int) ?lx25 HG24.out ?ln25 K.out.size ?_); (case lg25 => rfl); (case lo25 => rfl); (case ls25 => rfl); (case lx25 => rfl); (case ln25 => omega)))
        intro x25 V10 oz gz
        replace K := Lib.hid (below_grown K.out LR.out (Nat.le_refl _) K.out.size gz)
        replace HX := Lib.hid (blk_grown HX.out LR.out (by decide) gz)
        replace LR := Lib.hid oz
        clear oz gz
        go_wp2
        go_ret
        exact ⟨_, rfl, by rw [HLL.out]; exact LR.out, K.out⟩
      · have e : LS = LL ++ [(3, at0)] ++ [(5, sg)] := by rw [HLS3.out, if_neg (fun h => h hr2)]; rfl
        subst e hr2
        clear HLS3 CR
        have L12 := (HX.out.cell 2).trans H2.out
        have c0 := (HX.out.cell 0).trans H0.out
        go_wp2_with (((with_reducible refine wpList_one_rec (o := ⟨some 95, .buildSlice 34 1 #[(0, Operand.tmp 94)], _, _, _, _⟩) ?lg26 34 46 (.tmp 94) ?lo26 { data := #[117, 100, 112] } (sg : Int) ?lx26 Try.underlying34 rec46 ?_); (case lg26 => rfl); (case lo26 => rfl); (case lx26 => rfl)))
        clear L12
        intro V9 hg26 hy hz26
        replace K := Lib.hid (K.out.trans (hy.mono K.out.size))
        replace LR := Lib.hid (row_under2 LR.out hy)
        replace HX := Lib.hid (HX.out.below hy HX.out.lt)
        clear hy
        have HG26 := Lib.hid hg26
        clear hg26
        clear c0
        go_wp2_with (((with_reducible refine wpList_app_rec (o := ⟨some 96, .call { callee := .builtin .append, args := #[Operand.tmp 89, Operand.tmp 95], argTypes := #[34, 34] }, _, _, _, _⟩) ?lg27 (.tmp 89) (.tmp 95) 34 46 ?lo27 Try.underlying34 rec46 w.heap.size x23 (1 + 1) ([.string { data := #[101, 116, 104, 101, 114] }, .int .i64 0] ++ [.string { data := #[105, 112, 118, 54] }, .int .i64 (at0 : Int)]) ?ls27 LR.out (Y18x1.heap.size) { data := #[117, 100, 112] } (sg : Int) ?lx27 HG26.out ?ln27 K.out.size ?_); (case lg27 => rfl); (case lo27 => rfl); (case ls27 => rfl); (case lx27 => rfl); (case ln27 => omega)))
        intro x27 V10 oz gz
        replace K := Lib.hid (below_grown K.out LR.out (Nat.le_refl _) K.out.size gz)
        replace HX := Lib.hid (blk_grown HX.out LR.out (by decide) gz)
        replace LR := Lib.hid oz
        clear oz gz
        go_wp2
        go_ret
        exact ⟨_, rfl, by rw [HLL.out]; exact LR.out, K.out⟩
end Go.Proofs.Ytopfbgoiehlhbaa

