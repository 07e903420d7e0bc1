/- Texts that the walks of this seat lean on, put together. -/
import Derived.StillTailTactics
import Derived.Deep.CutBlock
import Derived.Deep.DeepCutAuto
import Derived.LoopTactic
import Derived.Handy
import Derived.Test.YtcgaibkpdihncaaDoorTk
import Derived.Test.YtcgaibkpdihncaaDoorM29
import Derived.Test.YtcgaibkpdihncaaDoorM34
import Derived.Test.YtcgaibkpdihncaaDoorM45
namespace Go.Proofs.YtcgaibkpdihncaaDoor
open Go.RowKit Go.Lib
theorem one_zero (l : List Nat) (h : l ≠ []) : hasB 1 l 0 = false ∧ insB 1 l 0 = 1 ∧ hasB 1 l 1 = true ∧ insB 1 l 1 = 1 := by
  have h1 : hasB 1 l 1 = true := by
    unfold hasB
    rw [List.all_eq_true]
    intro b _
    rw [Nat.mod_one]; rfl
  refine ⟨hasB_zero 1 l h, ?_, h1, insB_has 1 l 1 h1⟩
  apply Nat.eq_of_testBit_eq
  intro q
  rw [insB_bit, Nat.zero_testBit, Bool.false_or]
  cases l with
  | nil => exact absurd rfl h
  | cons b r =>
    rw [show (1 : Nat) = 2 ^ 0 from rfl, Nat.testBit_two_pow]
    have : ((b :: r).any fun b => decide (b % 2 ^ 0 = q)) = decide (0 = q) := by
      rw [Bool.eq_iff_iff, List.any_eq_true, decide_eq_true_iff]
      constructor
      · rintro ⟨x, _, hx⟩
        rw [decide_eq_true_iff, Nat.pow_zero, Nat.mod_one] at hx; exact hx
      · intro hq
        exact ⟨b, List.mem_cons_self .., by rw [decide_eq_true_iff, Nat.pow_zero, Nat.mod_one]; exact hq⟩
    exact this
theorem btN_ne (c : Cf) (hok : okC c = true) (k : Fl) (hv : vK k = true) : btN c k ≠ [] := by
  have h := btN_len_yes (c := c) hv
  have := okC_hs hok
  intro e
  rw [e, List.length_nil] at h
  omega
set_option maxRecDepth 100000 in
set_option maxHeartbeats 4000000 in
theorem one_walk (v : Value) (zs : List Int) (n m : Int) (w : World) (hv : Rd w v (ivs zs)) (hE : Env w) : Calls Tryd.prog 6 #[v, .int .i64 n, .int .i64 m] w fun e w' => e = .returned (.bool true) ∧ Below w.heap.size w w' := by
  have K := Lib.hid (Below.refl w.heap.size w)
  have EN := Lib.hid hE
  have V0 := Lib.hid hv
  obtain ⟨va, vc, rfl, hc1, hc2⟩ := rdI_shape hv
  have AW := Lib.hid awake_any
  obtain ⟨len, hlen⟩ : ∃ len, len = zs.length := ⟨_, rfl⟩
  rw [← hlen] at V0 hc1 ⊢
  have hq := eqp_some
  have qE := hE.lt
  by_cases h30 : len > 30
  · have d1 : decide ((len : Int) > 30) = true := decide_eq_true (by omega)
    have d2 : decide (len > 30) = true := decide_eq_true h30
    have d3 : decide (30 < len) = true := decide_eq_true h30
    clear hv hE hlen h30 V0
    go_enter Tryd.func6, Tryd.ntmps6
    go_wp2_with fail
    refine (AW.out w EN.out).mono ?_
    rintro e V1 ⟨rfl, hy⟩
    replace K := Lib.hid (K.out.trans (hy.mono K.out.size))
    clear hy
    go_wp2
    go_ret
    exact ⟨rfl, K.out⟩
  have d1 : decide ((len : Int) > 30) = false := decide_eq_false (by omega)
  have d2 : decide (len > 30) = false := decide_eq_false h30
  have d3 : decide (30 < len) = false := decide_eq_false h30
  have CF := Lib.hid (fun W h => config_any (.slice va len vc) zs W h)
  obtain ⟨c, hcr⟩ : ∃ c, c = cfg zs := ⟨_, rfl⟩
  have hc : c.Fit := by rw [hcr]; exact cfg_fit zs
  have hok : okC c = true := by rw [hcr]; exact cfg_ok zs
  rw [← hcr] at CF
  obtain ⟨ka, hka⟩ : ∃ k, k = kflow n false false := ⟨_, rfl⟩
  have hkf : ka.Fit := by rw [hka]; exact kflow_fit _ _ _
  have hkv : vK ka = true := by rw [hka]; exact kflow_vK _ _ _
  obtain ⟨kb, hkb⟩ : ∃ k, k = kflow m true true := ⟨_, rfl⟩
  have hlf : kb.Fit := by rw [hkb]; exact kflow_fit _ _ _
  have hlv : vK kb = true := by rw [hkb]; exact kflow_vK _ _ _
  have CK := Lib.hid (fun W => flow_any n false false W)
  have CJ := Lib.hid (fun W => flow_any m true true W)
  rw [← hka] at CK
  rw [← hkb] at CJ
  have CN := Lib.hid (fun W => new_yes c hc hok W)
  have CB := Lib.hid (fun gf W h1 h2 => fs_new c gf 1 (by decide) (by decide) W h1 h2)
  rw [show ((1 : Nat) : Int) = 1 from rfl] at CB
  obtain ⟨a1, a2, a3, a4⟩ := one_zero (btN c ka) (btN_ne c hok ka hkv)
  obtain ⟨b1, b2, b3, b4⟩ := one_zero (btN c kb) (btN_ne c hok kb hlv)
  have CIA := Lib.hid (fun gf gF gW L W h => fs_ins c hc hok ka hkf hkv gf gF gW 1 L 0 W h)
  have CIB := Lib.hid (fun gf gF gW L W h => fs_ins c hc hok kb hlf hlv gf gF gW 1 L 1 W h)
  have HA0 := Lib.hid (fun gf gF gW L W h => fs_has c hc hok ka hkf hkv gf gF gW 1 L 0 W h)
  have HB0 := Lib.hid (fun gf gF gW L W h => fs_has c hc hok kb hlf hlv gf gF gW 1 L 0 W h)
  have HA1 := Lib.hid (fun gf gF gW L W h => fs_has c hc hok ka hkf hkv gf gF gW 1 L 1 W h)
  have HB1 := Lib.hid (fun gf gF gW L W h => fs_has c hc hok kb hlf hlv gf gF gW 1 L 1 W h)
  have CC := Lib.hid (fun gf gF gW L W h => fs_count c gf gF gW 1 L 1 W h)
  have CO := Lib.hid (fun gf gF gW L W h => fs_ones c gf gF gW 1 L 1 (-1) W h)
  rw [a1, a2] at CIA
  rw [b3, b4] at CIB
  rw [a1] at HA0
  rw [b1] at HB0
  rw [a3] at HA1
  rw [b3] at HB1
  rw [show (bitsL 1 1) = [0] from by decide] at CC CO
  rw [cut_alln] at CO
  have CT := Lib.hid (fun va vb W h1 h2 => ints_any va vb [0] W h1 h2 (by decide))
  have KY : Hid (ka.cs.size = k0.cs.size) := by show _ = _; rw [Fl.cs_size _ hkf, Fl.cs_size _ k0_fit]
  have KZ := Lib.hid (fl_ik ka hkf)
  have KA := Lib.hid (Fl.cs_all ka)
  have LY : Hid (kb.cs.size = k0.cs.size) := by show _ = _; rw [Fl.cs_size _ hlf, Fl.cs_size _ k0_fit]
  have LZ := Lib.hid (fl_ik kb hlf)
  have LA := Lib.hid (Fl.cs_all kb)
  obtain ⟨ZK, hZK⟩ : ∃ Z, Z = k0.cs := ⟨_, rfl⟩
  have z31 : Hid (∀ W, (zeroValue 43).run Tryd.prog W = .ok (.agg ZK) W) := by rw [hZK]; exact zero31
  rw [← hZK] at KY LY
  generalize c.cs = cc at *
  generalize ka.cs = kc at *
  generalize kb.cs = lc at *
  clear hc hok hkf hkv hlf hlv hka hkb hcr a1 a2 a3 a4 b1 b2 b3 b4 hv hE hlen h30 hZK
  go_enter Tryd.func6, Tryd.ntmps6
  go_wp2_with fail
  refine (CF.out w V0.out).mono ?_
  rintro e V1 ⟨rfl, hy⟩
  replace K := Lib.hid (K.out.trans (hy.mono K.out.size))
  replace EN := Lib.hid (EN.out.below hy EN.out.lt)
  clear hy
  go_wp2_with fail
  refine (CN.out V1).mono ?_
  rintro e V2 ⟨⟨gf, rfl, hgf, hF⟩, hy⟩
  replace K := Lib.hid (K.out.trans (hy.mono K.out.size))
  replace EN := Lib.hid (EN.out.below hy EN.out.lt)
  have F := Lib.hid hF
  clear hF
  clear hy
  go_wp2_with fail
  have qK := K.out.size
  refine (CB.out gf V2 F.out EN.out).mono ?_
  rintro e V3 ⟨⟨gF, gW, L, rfl, hS, hgW, hgF⟩, hy⟩
  replace K := Lib.hid (K.out.trans (hy.mono K.out.size))
  replace F := Lib.hid (F.out.below hy F.out.lt)
  have hgW2 : w.heap.size ≤ gW := Nat.le_trans qK hgW
  replace EN := Lib.hid (EN.out.below hy EN.out.lt)
  have S := Lib.hid hS
  clear hS hgf hgF F
  clear hy
  have z31o := z31.out
  go_wp2_with fail
  refine (CK.out V3).mono ?_
  rintro e V4 ⟨rfl, hy⟩
  replace K := Lib.hid (K.out.trans (hy.mono K.out.size))
  replace S := Lib.hid (S.out.below hy)
  clear hy
  go_wp2_with fail
  refine (CJ.out V4).mono ?_
  rintro e V5 ⟨rfl, hy⟩
  replace K := Lib.hid (K.out.trans (hy.mono K.out.size))
  replace S := Lib.hid (S.out.below hy)
  have qK2 := K.out.size
  obtain ⟨qf, qF, qW2⟩ := S.out.lts
  clear hy
  clear EN
  have hal := (Below.refl V5.heap.size V5).alloc (Nat.le_refl _) (.cells ZK 43)
  replace K := Lib.hid (K.out.trans (hal.mono K.out.size))
  replace S := Lib.hid (S.out.below hal)
  have NA := Lib.hid (Blk.new V5 43 ZK)
  clear hal
  have hal := (Below.refl (V5.alloc (.cells ZK 43)).heap.size (V5.alloc (.cells ZK 43))).alloc (Nat.le_refl _) (.cells ZK 43)
  replace K := Lib.hid (K.out.trans (hal.mono K.out.size))
  replace S := Lib.hid (S.out.below hal)
  replace NA := Lib.hid (NA.out.below hal NA.out.lt)
  have NBq := Blk.new (V5.alloc (.cells ZK 43)) 43 ZK
  simp only [World.size_alloc] at NBq
  have NB := Lib.hid NBq
  clear NBq
  clear hal
  go_wp2_with (((with_reducible refine wpList_blk_store (op := ⟨none, .store 43 (.tmp 11) (.tmp 38), _, _, _, _⟩) ?sg1 43 (.tmp 11) (.tmp 38) ?so1 (V5.heap.size) kc ?sx1 ?sy1 NA.out KY.out KZ.out KA.out ?_); (case sg1 => rfl); (case so1 => rfl); (case sx1 => rfl); (case sy1 => rfl)))
  intro V6 hA hF hB
  replace K := Lib.hid (K.out.trans (hB _ (by omega)))
  replace S := Lib.hid (S.out.belowB (hB (V5.heap.size) (by omega)) (by omega) (by omega) (by omega))
  replace NB := Lib.hid (show Blk _ _ _ _ from (hF _ (by omega)).trans NB.out)
  replace NA := Lib.hid hA
  clear hA hF hB
  go_wp2_with (((with_reducible refine wpList_blk_store (op := ⟨none, .store 43 (.tmp 12) (.tmp 40), _, _, _, _⟩) ?sg2 43 (.tmp 12) (.tmp 40) ?so2 (V5.heap.size + 1) lc ?sx2 ?sy2 NB.out LY.out LZ.out LA.out ?_); (case sg2 => rfl); (case so2 => rfl); (case sx2 => rfl); (case sy2 => rfl)))
  intro V7 hA hF hB
  replace K := Lib.hid (K.out.trans (hB _ (by omega)))
  replace S := Lib.hid (S.out.belowB (hB (V5.heap.size) (by omega)) (by omega) (by omega) (by omega))
  replace NA := Lib.hid (show Blk _ _ _ _ from (hF _ (by omega)).trans NA.out)
  replace NB := Lib.hid hA
  clear hA hF hB
  clear z31o z31
  obtain ⟨qf1, qF1, qW1⟩ : gf < V5.heap.size ∧ gF < V5.heap.size ∧ gW < V5.heap.size := ⟨qf, qF, qW2⟩
  generalize V5.heap.size = gk at *
  have L3 : (loadVar 43 ⟨gk, 0, none⟩).run Tryd.prog V7 = .ok (.agg kc) V7 := run_blk_load (P := Tryd.prog) 43 (gk) _ NA.out Tryd.underlying43 rfl KZ.out
  replace L3 := Lib.hid L3
  go_wp2_with (((with_reducible refine wpList_load_want (op := ⟨some 42, .load 43 (.tmp 11), _, _, _, _⟩) ?wg3 43 (.tmp 11) ?wo3 ⟨gk, 0, none⟩ ?wx3 (.agg kc) L3.out ?_); (case wg3 => rfl); (case wo3 => rfl); (case wx3 => rfl)))
  clear L3
  refine (HA0.out gf gF gW L V7 S.out).mono ?_
  rintro e V8 ⟨rfl, hy⟩
  replace K := Lib.hid (K.out.trans (hy.mono K.out.size))
  replace S := Lib.hid (S.out.below hy)
  replace NA := Lib.hid (NA.out.below hy NA.out.lt)
  replace NB := Lib.hid (NB.out.below hy NB.out.lt)
  clear hy
  have L4 : (loadVar 43 ⟨gk + 1, 0, none⟩).run Tryd.prog V8 = .ok (.agg lc) V8 := run_blk_load (P := Tryd.prog) 43 (gk + 1) _ NB.out Tryd.underlying43 rfl LZ.out
  replace L4 := Lib.hid L4
  go_wp2_with (((with_reducible refine wpList_load_want (op := ⟨some 46, .load 43 (.tmp 12), _, _, _, _⟩) ?wg4 43 (.tmp 12) ?wo4 ⟨gk + 1, 0, none⟩ ?wx4 (.agg lc) L4.out ?_); (case wg4 => rfl); (case wo4 => rfl); (case wx4 => rfl)))
  clear L4
  refine (HB0.out gf gF gW L V8 S.out).mono ?_
  rintro e V9 ⟨rfl, hy⟩
  replace K := Lib.hid (K.out.trans (hy.mono K.out.size))
  replace S := Lib.hid (S.out.below hy)
  replace NA := Lib.hid (NA.out.below hy NA.out.lt)
  replace NB := Lib.hid (NB.out.below hy NB.out.lt)
  clear hy
  have L5 : (loadVar 43 ⟨gk, 0, none⟩).run Tryd.prog V9 = .ok (.agg kc) V9 := run_blk_load (P := Tryd.prog) 43 (gk) _ NA.out Tryd.underlying43 rfl KZ.out
  replace L5 := Lib.hid L5
  go_wp2_with (((with_reducible refine wpList_load_want (op := ⟨some 50, .load 43 (.tmp 11), _, _, _, _⟩) ?wg5 43 (.tmp 11) ?wo5 ⟨gk, 0, none⟩ ?wx5 (.agg kc) L5.out ?_); (case wg5 => rfl); (case wo5 => rfl); (case wx5 => rfl)))
  clear L5
  refine (CIA.out gf gF gW L V9 S.out).mono ?_
  rintro e V10 ⟨rfl, hs, gr⟩
  replace K := Lib.hid (K.out.grown gr K.out.size (fun k e => by cases e; exact hgW2))
  replace NA := Lib.hid (show Blk _ _ _ _ from (gr.block _ NA.out.lt (fun e => by cases e; omega)).trans NA.out)
  replace NB := Lib.hid (show Blk _ _ _ _ from (gr.block _ NB.out.lt (fun e => by cases e; omega)).trans NB.out)
  replace S := Lib.hid hs
  clear hs gr
  have L6 : (loadVar 43 ⟨gk + 1, 0, none⟩).run Tryd.prog V10 = .ok (.agg lc) V10 := run_blk_load (P := Tryd.prog) 43 (gk + 1) _ NB.out Tryd.underlying43 rfl LZ.out
  replace L6 := Lib.hid L6
  go_wp2_with (((with_reducible refine wpList_load_want (op := ⟨some 53, .load 43 (.tmp 12), _, _, _, _⟩) ?wg6 43 (.tmp 12) ?wo6 ⟨gk + 1, 0, none⟩ ?wx6 (.agg lc) L6.out ?_); (case wg6 => rfl); (case wo6 => rfl); (case wx6 => rfl)))
  clear L6
  refine (CIB.out gf gF gW L V10 S.out).mono ?_
  rintro e V11 ⟨rfl, hs, gr⟩
  replace K := Lib.hid (K.out.grown gr K.out.size (fun k e => by cases e; exact hgW2))
  replace NA := Lib.hid (show Blk _ _ _ _ from (gr.block _ NA.out.lt (fun e => by cases e; omega)).trans NA.out)
  replace NB := Lib.hid (show Blk _ _ _ _ from (gr.block _ NB.out.lt (fun e => by cases e; omega)).trans NB.out)
  replace S := Lib.hid hs
  clear hs gr
  have L7 : (loadVar 43 ⟨gk, 0, none⟩).run Tryd.prog V11 = .ok (.agg kc) V11 := run_blk_load (P := Tryd.prog) 43 (gk) _ NA.out Tryd.underlying43 rfl KZ.out
  replace L7 := Lib.hid L7
  go_wp2_with (((with_reducible refine wpList_load_want (op := ⟨some 66, .load 43 (.tmp 11), _, _, _, _⟩) ?wg7 43 (.tmp 11) ?wo7 ⟨gk, 0, none⟩ ?wx7 (.agg kc) L7.out ?_); (case wg7 => rfl); (case wo7 => rfl); (case wx7 => rfl)))
  clear L7
  refine (HA1.out gf gF gW L V11 S.out).mono ?_
  rintro e V12 ⟨rfl, hy⟩
  replace K := Lib.hid (K.out.trans (hy.mono K.out.size))
  replace S := Lib.hid (S.out.below hy)
  replace NA := Lib.hid (NA.out.below hy NA.out.lt)
  replace NB := Lib.hid (NB.out.below hy NB.out.lt)
  clear hy
  have L8 : (loadVar 43 ⟨gk + 1, 0, none⟩).run Tryd.prog V12 = .ok (.agg lc) V12 := run_blk_load (P := Tryd.prog) 43 (gk + 1) _ NB.out Tryd.underlying43 rfl LZ.out
  replace L8 := Lib.hid L8
  go_wp2_with (((with_reducible refine wpList_load_want (op := ⟨some 71, .load 43 (.tmp 12), _, _, _, _⟩) ?wg8 43 (.tmp 12) ?wo8 ⟨gk + 1, 0, none⟩ ?wx8 (.agg lc) L8.out ?_); (case wg8 => rfl); (case wo8 => rfl); (case wx8 => rfl)))
  clear L8
  refine (HB1.out gf gF gW L V12 S.out).mono ?_
  rintro e V13 ⟨rfl, hy⟩
  replace K := Lib.hid (K.out.trans (hy.mono K.out.size))
  replace S := Lib.hid (S.out.below hy)
  replace NA := Lib.hid (NA.out.below hy NA.out.lt)
  replace NB := Lib.hid (NB.out.below hy NB.out.lt)
  clear hy
  go_wp2_with fail
  refine (CC.out gf gF gW L V13 S.out).mono ?_
  rintro e V14 ⟨rfl, hy⟩
  replace K := Lib.hid (K.out.trans (hy.mono K.out.size))
  replace S := Lib.hid (S.out.below hy)
  replace NA := Lib.hid (NA.out.below hy NA.out.lt)
  replace NB := Lib.hid (NB.out.below hy NB.out.lt)
  clear hy
  go_wp2_with fail
  refine (CO.out gf gF gW L V14 S.out).mono ?_
  rintro e V15 ⟨x, rfl, hx, hy⟩
  replace K := Lib.hid (K.out.trans (hy.mono K.out.size))
  replace S := Lib.hid (S.out.below hy)
  replace NA := Lib.hid (NA.out.below hy NA.out.lt)
  replace NB := Lib.hid (NB.out.below hy NB.out.lt)
  have X := Lib.hid (Rd.own hx)
  clear hx
  clear hy
  go_wp2_with fail
  have hal := (Below.refl V15.heap.size V15).alloc (Nat.le_refl _) (.cells #[.int .i64 0] 3)
  replace K := Lib.hid (K.out.trans (hal.mono K.out.size))
  replace S := Lib.hid (S.out.below hal)
  replace NA := Lib.hid (NA.out.below hal NA.out.lt)
  replace NB := Lib.hid (NB.out.below hal NB.out.lt)
  replace X := Lib.hid (X.out.below hal)
  have LT := Lib.hid (show Rd (V15.alloc (.cells #[.int .i64 0] 3)) (.slice (some ⟨V15.heap.size, 0, none⟩) 1 1) (nus .i64 [0]) from rd_lit V15 .i64 3 [0] 1 (0, 0) rfl (by decide))
  generalize V15.alloc (.cells #[.int .i64 0] 3) = V16 at *
  clear hal
  refine (CT.out _ _ V16 X.out LT.out).mono ?_
  rintro e V17 ⟨rfl, hy⟩
  replace K := Lib.hid (K.out.trans (hy.mono K.out.size))
  replace S := Lib.hid (S.out.below hy)
  replace NA := Lib.hid (NA.out.below hy NA.out.lt)
  replace NB := Lib.hid (NB.out.below hy NB.out.lt)
  replace X := Lib.hid (X.out.below hy)
  clear hy
  go_wp2_with fail
  refine (AW.out V17 S.out.E).mono ?_
  rintro e V18 ⟨rfl, hy⟩
  replace K := Lib.hid (K.out.trans (hy.mono K.out.size))
  replace S := Lib.hid (S.out.below hy)
  replace NA := Lib.hid (NA.out.below hy NA.out.lt)
  replace NB := Lib.hid (NB.out.below hy NB.out.lt)
  replace X := Lib.hid (X.out.below hy)
  clear hy
  go_wp2
  go_ret
  exact ⟨rfl, K.out⟩
end Go.Proofs.YtcgaibkpdihncaaDoor
