/- Texts that the walks of this seat lean on, put together. -/
import Derived.Deep.CutBlock
import Derived.Deep.DeepCutAuto
import Derived.LoopTactic
import Derived.Handy
import Derived.Test.YtblkpnjmmdbgnaaTk
import Derived.Test.YtblkpnjmmdbgnaaM33
import Derived.Test.YtblkpnjmmdbgnaaM36
namespace Go.Proofs.Ytblkpnjmmdbgnaa
open Go.RowKit Go.Lib
set_option maxRecDepth 100000 in
set_option maxHeartbeats 4000000 in
theorem checks_0 (va : Value) (zs : List Int) (hl : zs.length ≤ 30) (which v : Int) (hw : which % 12 = 0) (w : World) (hv : Rd w va (ivs zs)) :
    Calls Try.prog 5 #[va, .int .i64 which, .int .i64 v] w fun e w' => e = .returned (.bool true) ∧ Below w.heap.size w w' := by
  have K := Lib.hid (Below.refl w.heap.size w)
  obtain ⟨ZC, hZC⟩ : ∃ Z, Z = cf0.cs := ⟨_, rfl⟩
  have z27 : ∀ W, (zeroValue 27).run Try.prog W = .ok (.agg ZC) W := by rw [hZC]; exact zero27
  have hZS : ZC.size = 48 := by rw [hZC]; exact cf_size _ cf0_fit
  clear hZC
  have CF := Lib.hid (fun W h => config_any va zs W h)
  have CA := Lib.hid (fun W => awake_any W)
  have CR := Lib.hid (fun W => round_any which 12 W (by decide) (by decide))
  rw [hw] at CR
  obtain ⟨c, hcz⟩ : ∃ c, c = cfg zs := ⟨_, rfl⟩
  have hc : c.Fit := by rw [hcz]; exact cfg_fit zs
  have hok : okC c = true := by rw [hcz]; exact cfg_ok zs
  rw [← hcz] at CF
  clear hcz
  have CC := Lib.hid (fun W => check_any c hc W)
  rw [hok, if_pos rfl] at CC
  have CD := Lib.hid (fun W => check_any _ (fit_st c hc v) W)
  rw [ok_st c hok v] at CD
  have SET := Lib.hid (set_st c hc v)
  have IC2 := Lib.hid (cf_ic _ (fit_st c hc v))
  have RY : Hid (c.cs.size = ZC.size) := by show _ = _; rw [cf_size _ hc, hZS]
  have RZ := Lib.hid (cf_ic _ hc)
  have RA := Lib.hid (cf_all c)
  obtain ⟨old, hold⟩ : ∃ u, c.cs[0]? = some u := ⟨_, (cf_get c hc).1⟩
  have HO := Lib.hid hold
  generalize Cf.cs { c with st := v } = cc2 at *
  generalize c.cs = cc at *
  have HV := Lib.hid hv
  obtain ⟨a, cap, rfl, hlc, hlm⟩ := rdI_shape hv
  obtain ⟨n, hn⟩ : ∃ n, n = zs.length := ⟨_, rfl⟩
  rw [← hn] at HV CF hl ⊢
  have g1 : decide ((n : Int) > 30) = false := decide_eq_false (by omega)
  have g2 : ¬ n > 30 := by omega
  have g3 : ¬ 30 < n := by omega
  clear hv hw hc hok hZS hold hn hlc hlm
  go_enter Try.func5, Try.ntmps5
  go_wp2_with fail
  refine (CF.out w (HV.out.below K.out)).mono ?_
  rintro e V1 ⟨rfl, hy⟩
  replace K := Lib.hid (K.out.trans (hy.mono K.out.size))
  have qg := K.out.size
  clear hy
  go_wp2_with (((with_reducible refine wpList_blk_store (op := ⟨none, .store 27 (.tmp 7) (.tmp 17), _, _, _, _⟩) ?sg12 27 (.tmp 7) (.tmp 17) ?so12 (V1.heap.size) cc ?sx12 ?sy12 (Blk.new V1 27 ZC) RY.out RZ.out RA.out ?_); (case sg12 => rfl); (case so12 => rfl); (case sx12 => rfl); (case sy12 => rfl)))
  intro V2 hA hF hB
  have hy := ((Below.refl V1.heap.size V1).alloc (Nat.le_refl _) (.cells ZC 27)).trans (hB _ (Nat.le_refl _))
  replace K := Lib.hid (K.out.trans (hy.mono K.out.size))
  have C := Lib.hid hA
  clear hA hF hB hy
  obtain ⟨g, hg⟩ : ∃ g, g = V1.heap.size := ⟨_, rfl⟩
  rw [← hg] at C qg ⊢
  clear hg z27
  have L13 : (loadVar 27 ⟨g, 0, none⟩).run Try.prog V2 = .ok (.agg cc) V2 := run_blk_load (P := Try.prog) 27 (g) _ C.out Try.underlying27 rfl RZ.out
  replace L13 := Lib.hid L13
  go_wp2_with (((with_reducible refine wpList_load_want (op := ⟨some 18, .load 27 (.tmp 7), _, _, _, _⟩) ?wg13 27 (.tmp 7) ?wo13 ⟨g, 0, none⟩ ?wx13 (.agg cc) L13.out ?_); (case wg13 => rfl); (case wo13 => rfl); (case wx13 => rfl)))
  clear L13
  refine (CC.out V2).mono ?_
  rintro e V3 ⟨rfl, hy⟩
  replace K := Lib.hid (K.out.trans (hy.mono K.out.size))
  replace C := Lib.hid (C.out.below hy C.out.lt)
  clear hy
  go_wp2_with fail
  refine (same_below (CR.out V3)).mono ?_
  rintro e V4 ⟨rfl, hy⟩
  replace K := Lib.hid (K.out.trans (hy.mono K.out.size))
  replace C := Lib.hid (C.out.below hy C.out.lt)
  clear hy
  have c0 := (C.out.cell 0).trans HO.out
  have c1 := C.out.frozen 0
  go_upto_region 32 with fail
  have hA := C.out.set_ 0 (.int .i64 v)
  rw [SET.out] at hA
  replace K := Lib.hid (K.out.setCell (p := ⟨g, 0, none⟩) (by show _ ≤ g; omega) (.int .i64 v))
  replace C := Lib.hid hA
  clear hA c0 c1
  generalize V4.setCell ⟨g, 0, none⟩ (.int .i64 v) = V5 at *
  by_cases h1 : v ≥ 1
  · by_cases h2 : v ≤ 4
    · have d1 : decide (v ≥ 1) = true := decide_eq_true h1
      have d2 : decide (v ≤ 4) = true := decide_eq_true h2
      have e : wi v 1 4 = true := by unfold wi; rw [decide_eq_true h1, decide_eq_true h2]; rfl
      rw [e] at CD
      replace CD := Lib.hid (show ∀ W, Calls Try.prog 7 #[.agg cc2] W fun e w' => e = .returned (.int .i64 0) ∧ Below W.heap.size W w' from CD.out)
      clear e
      go_upto_region 33 with fail
      have L14 : (loadVar 27 ⟨g, 0, none⟩).run Try.prog V5 = .ok (.agg cc2) V5 := run_blk_load (P := Try.prog) 27 (g) _ C.out Try.underlying27 rfl IC2.out
      replace L14 := Lib.hid L14
      go_wp2_with (((with_reducible refine wpList_load_want (op := ⟨some 90, .load 27 (.tmp 7), _, _, _, _⟩) ?wg14 27 (.tmp 7) ?wo14 ⟨g, 0, none⟩ ?wx14 (.agg cc2) L14.out ?_); (case wg14 => rfl); (case wo14 => rfl); (case wx14 => rfl)))
      clear L14
      refine (CD.out V5).mono ?_
      rintro e V6 ⟨rfl, hy⟩
      replace K := Lib.hid (K.out.trans (hy.mono K.out.size))
      replace C := Lib.hid (C.out.below hy C.out.lt)
      clear hy
      go_wp2_with fail
      refine (CA.out V6).mono ?_
      rintro e V7 ⟨rfl, hy⟩
      replace K := Lib.hid (K.out.trans (hy.mono K.out.size))
      replace C := Lib.hid (C.out.below hy C.out.lt)
      clear hy
      go_wp2
      go_ret
      exact ⟨rfl, K.out⟩
    · have d1 : decide (v ≥ 1) = true := decide_eq_true h1
      have d2 : decide (v ≤ 4) = false := decide_eq_false h2
      have e : wi v 1 4 = false := by unfold wi; rw [decide_eq_false h2, Bool.and_false]
      rw [e] at CD
      replace CD := Lib.hid (show ∀ W, Calls Try.prog 7 #[.agg cc2] W fun e w' => e = .returned (.int .i64 1) ∧ Below W.heap.size W w' from CD.out)
      clear e
      go_upto_region 33 with fail
      have L15 : (loadVar 27 ⟨g, 0, none⟩).run Try.prog V5 = .ok (.agg cc2) V5 := run_blk_load (P := Try.prog) 27 (g) _ C.out Try.underlying27 rfl IC2.out
      replace L15 := Lib.hid L15
      go_wp2_with (((with_reducible refine wpList_load_want (op := ⟨some 90, .load 27 (.tmp 7), _, _, _, _⟩) ?wg15 27 (.tmp 7) ?wo15 ⟨g, 0, none⟩ ?wx15 (.agg cc2) L15.out ?_); (case wg15 => rfl); (case wo15 => rfl); (case wx15 => rfl)))
      clear L15
      refine (CD.out V5).mono ?_
      rintro e V6 ⟨rfl, hy⟩
      replace K := Lib.hid (K.out.trans (hy.mono K.out.size))
      replace C := Lib.hid (C.out.below hy C.out.lt)
      clear hy
      go_wp2_with fail
      refine (CA.out V6).mono ?_
      rintro e V7 ⟨rfl, hy⟩
      replace K := Lib.hid (K.out.trans (hy.mono K.out.size))
      replace C := Lib.hid (C.out.below hy C.out.lt)
      clear hy
      go_wp2
      go_ret
      exact ⟨rfl, K.out⟩
  · have d1 : decide (v ≥ 1) = false := decide_eq_false h1
    have e : wi v 1 4 = false := by unfold wi; rw [decide_eq_false h1]; rfl
    rw [e] at CD
    replace CD := Lib.hid (show ∀ W, Calls Try.prog 7 #[.agg cc2] W fun e w' => e = .returned (.int .i64 1) ∧ Below W.heap.size W w' from CD.out)
    clear e
    go_upto_region 33 with fail
    have L16 : (loadVar 27 ⟨g, 0, none⟩).run Try.prog V5 = .ok (.agg cc2) V5 := run_blk_load (P := Try.prog) 27 (g) _ C.out Try.underlying27 rfl IC2.out
    replace L16 := Lib.hid L16
    go_wp2_with (((with_reducible refine wpList_load_want (op := ⟨some 90, .load 27 (.tmp 7), _, _, _, _⟩) ?wg16 27 (.tmp 7) ?wo16 ⟨g, 0, none⟩ ?wx16 (.agg cc2) L16.out ?_); (case wg16 => rfl); (case wo16 => rfl); (case wx16 => rfl)))
    clear L16
    refine (CD.out V5).mono ?_
    rintro e V6 ⟨rfl, hy⟩
    replace K := Lib.hid (K.out.trans (hy.mono K.out.size))
    replace C := Lib.hid (C.out.below hy C.out.lt)
    clear hy
    go_wp2_with fail
    refine (CA.out V6).mono ?_
    rintro e V7 ⟨rfl, hy⟩
    replace K := Lib.hid (K.out.trans (hy.mono K.out.size))
    replace C := Lib.hid (C.out.below hy C.out.lt)
    clear hy
    go_wp2
    go_ret
    exact ⟨rfl, K.out⟩
set_option maxRecDepth 100000 in
set_option maxHeartbeats 4000000 in
theorem checks_1 (va : Value) (zs : List Int) (hl : zs.length ≤ 30) (which v : Int) (hw : which % 12 = 1) (w : World) (hv : Rd w va (ivs zs)) :
    Calls Try.prog 5 #[va, .int .i64 which, .int .i64 v] w fun e w' => e = .returned (.bool true) ∧ Below w.heap.size w w' := by
  have K := Lib.hid (Below.refl w.heap.size w)
  obtain ⟨ZC, hZC⟩ : ∃ Z, Z = cf0.cs := ⟨_, rfl⟩
  have z27 : ∀ W, (zeroValue 27).run Try.prog W = .ok (.agg ZC) W := by rw [hZC]; exact zero27
  have hZS : ZC.size = 48 := by rw [hZC]; exact cf_size _ cf0_fit
  clear hZC
  have CF := Lib.hid (fun W h => config_any va zs W h)
  have CA := Lib.hid (fun W => awake_any W)
  have CR := Lib.hid (fun W => round_any which 12 W (by decide) (by decide))
  rw [hw] at CR
  obtain ⟨c, hcz⟩ : ∃ c, c = cfg zs := ⟨_, rfl⟩
  have hc : c.Fit := by rw [hcz]; exact cfg_fit zs
  have hok : okC c = true := by rw [hcz]; exact cfg_ok zs
  rw [← hcz] at CF
  clear hcz
  have CC := Lib.hid (fun W => check_any c hc W)
  rw [hok, if_pos rfl] at CC
  have CD := Lib.hid (fun W => check_any _ (fit_sz c hc v) W)
  rw [ok_sz c hok v] at CD
  have SET := Lib.hid (set_sz c hc v)
  have IC2 := Lib.hid (cf_ic _ (fit_sz c hc v))
  have RY : Hid (c.cs.size = ZC.size) := by show _ = _; rw [cf_size _ hc, hZS]
  have RZ := Lib.hid (cf_ic _ hc)
  have RA := Lib.hid (cf_all c)
  obtain ⟨old, hold⟩ : ∃ u, c.cs[1]? = some u := ⟨_, (cf_get c hc).2.1⟩
  have HO := Lib.hid hold
  generalize Cf.cs { c with sz := v } = cc2 at *
  generalize c.cs = cc at *
  have HV := Lib.hid hv
  obtain ⟨a, cap, rfl, hlc, hlm⟩ := rdI_shape hv
  obtain ⟨n, hn⟩ : ∃ n, n = zs.length := ⟨_, rfl⟩
  rw [← hn] at HV CF hl ⊢
  have g1 : decide ((n : Int) > 30) = false := decide_eq_false (by omega)
  have g2 : ¬ n > 30 := by omega
  have g3 : ¬ 30 < n := by omega
  clear hv hw hc hok hZS hold hn hlc hlm
  go_enter Try.func5, Try.ntmps5
  go_wp2_with fail
  refine (CF.out w (HV.out.below K.out)).mono ?_
  rintro e V1 ⟨rfl, hy⟩
  replace K := Lib.hid (K.out.trans (hy.mono K.out.size))
  have qg := K.out.size
  clear hy
  go_wp2_with (((with_reducible refine wpList_blk_store (op := ⟨none, .store 27 (.tmp 7) (.tmp 17), _, _, _, _⟩) ?sg17 27 (.tmp 7) (.tmp 17) ?so17 (V1.heap.size) cc ?sx17 ?sy17 (Blk.new V1 27 ZC) RY.out RZ.out RA.out ?_); (case sg17 => rfl); (case so17 => rfl); (case sx17 => rfl); (case sy17 => rfl)))
  intro V2 hA hF hB
  have hy := ((Below.refl V1.heap.size V1).alloc (Nat.le_refl _) (.cells ZC 27)).trans (hB _ (Nat.le_refl _))
  replace K := Lib.hid (K.out.trans (hy.mono K.out.size))
  have C := Lib.hid hA
  clear hA hF hB hy
  obtain ⟨g, hg⟩ : ∃ g, g = V1.heap.size := ⟨_, rfl⟩
  rw [← hg] at C qg ⊢
  clear hg z27
  have L18 : (loadVar 27 ⟨g, 0, none⟩).run Try.prog V2 = .ok (.agg cc) V2 := run_blk_load (P := Try.prog) 27 (g) _ C.out Try.underlying27 rfl RZ.out
  replace L18 := Lib.hid L18
  go_wp2_with (((with_reducible refine wpList_load_want (op := ⟨some 18, .load 27 (.tmp 7), _, _, _, _⟩) ?wg18 27 (.tmp 7) ?wo18 ⟨g, 0, none⟩ ?wx18 (.agg cc) L18.out ?_); (case wg18 => rfl); (case wo18 => rfl); (case wx18 => rfl)))
  clear L18
  refine (CC.out V2).mono ?_
  rintro e V3 ⟨rfl, hy⟩
  replace K := Lib.hid (K.out.trans (hy.mono K.out.size))
  replace C := Lib.hid (C.out.below hy C.out.lt)
  clear hy
  go_wp2_with fail
  refine (same_below (CR.out V3)).mono ?_
  rintro e V4 ⟨rfl, hy⟩
  replace K := Lib.hid (K.out.trans (hy.mono K.out.size))
  replace C := Lib.hid (C.out.below hy C.out.lt)
  clear hy
  have c0 := (C.out.cell 1).trans HO.out
  have c1 := C.out.frozen 1
  go_upto_region 32 with fail
  have hA := C.out.set_ 1 (.int .i64 v)
  rw [SET.out] at hA
  replace K := Lib.hid (K.out.setCell (p := ⟨g, 1, none⟩) (by show _ ≤ g; omega) (.int .i64 v))
  replace C := Lib.hid hA
  clear hA c0 c1
  generalize V4.setCell ⟨g, 1, none⟩ (.int .i64 v) = V5 at *
  by_cases h1 : v ≥ 2
  · by_cases h2 : v ≤ 1024
    · obtain ⟨m, rfl⟩ : ∃ m : Nat, v = (m : Int) := ⟨v.toNat, by omega⟩
      have ha := and_i64 m (m - 1) (by omega) (by omega)
      have e1 : IntKind.i64.wrap ((m : Int) - 1) = ((m - 1 : Nat) : Int) := by rw [IntKind.wrap_i64]; omega
      have hpw : pw (m : Int) 2 1024 = decide (m &&& (m - 1) = 0) := by unfold pw wi; rw [decide_eq_true h1, decide_eq_true h2, Int.toNat_natCast]; rfl
      have d1 : decide ((m : Int) ≥ 2) = true := decide_eq_true h1
      have d2 : decide ((m : Int) ≤ 1024) = true := decide_eq_true h2
      generalize m - 1 = q at *
      generalize m &&& q = r at *
      by_cases h3 : r = 0
      · have d3 : ((r : Int) == 0) = true := by rw [beq_iff_eq]; omega
        have e : pw (m : Int) 2 1024 = true := by rw [hpw]; exact decide_eq_true h3
        rw [e] at CD
        replace CD := Lib.hid (show ∀ W, Calls Try.prog 7 #[.agg cc2] W fun e w' => e = .returned (.int .i64 0) ∧ Below W.heap.size W w' from CD.out)
        clear e hpw
        go_upto_region 33 with fail
        have L19 : (loadVar 27 ⟨g, 0, none⟩).run Try.prog V5 = .ok (.agg cc2) V5 := run_blk_load (P := Try.prog) 27 (g) _ C.out Try.underlying27 rfl IC2.out
        replace L19 := Lib.hid L19
        go_wp2_with (((with_reducible refine wpList_load_want (op := ⟨some 90, .load 27 (.tmp 7), _, _, _, _⟩) ?wg19 27 (.tmp 7) ?wo19 ⟨g, 0, none⟩ ?wx19 (.agg cc2) L19.out ?_); (case wg19 => rfl); (case wo19 => rfl); (case wx19 => rfl)))
        clear L19
        refine (CD.out V5).mono ?_
        rintro e V6 ⟨rfl, hy⟩
        replace K := Lib.hid (K.out.trans (hy.mono K.out.size))
        replace C := Lib.hid (C.out.below hy C.out.lt)
        clear hy
        go_wp2_with fail
        refine (CA.out V6).mono ?_
        rintro e V7 ⟨rfl, hy⟩
        replace K := Lib.hid (K.out.trans (hy.mono K.out.size))
        replace C := Lib.hid (C.out.below hy C.out.lt)
        clear hy
        go_wp2
        go_ret
        exact ⟨rfl, K.out⟩
      · have d3 : ((r : Int) == 0) = false := by rw [beq_eq_false_iff_ne]; omega
        have e : pw (m : Int) 2 1024 = false := by rw [hpw]; exact decide_eq_false h3
        rw [e] at CD
        replace CD := Lib.hid (show ∀ W, Calls Try.prog 7 #[.agg cc2] W fun e w' => e = .returned (.int .i64 1) ∧ Below W.heap.size W w' from CD.out)
        clear e hpw
        go_upto_region 33 with fail
        have L20 : (loadVar 27 ⟨g, 0, none⟩).run Try.prog V5 = .ok (.agg cc2) V5 := run_blk_load (P := Try.prog) 27 (g) _ C.out Try.underlying27 rfl IC2.out
        replace L20 := Lib.hid L20
        go_wp2_with (((with_reducible refine wpList_load_want (op := ⟨some 90, .load 27 (.tmp 7), _, _, _, _⟩) ?wg20 27 (.tmp 7) ?wo20 ⟨g, 0, none⟩ ?wx20 (.agg cc2) L20.out ?_); (case wg20 => rfl); (case wo20 => rfl); (case wx20 => rfl)))
        clear L20
        refine (CD.out V5).mono ?_
        rintro e V6 ⟨rfl, hy⟩
        replace K := Lib.hid (K.out.trans (hy.mono K.out.size))
        replace C := Lib.hid (C.out.below hy C.out.lt)
        clear hy
        go_wp2_with fail
        refine (CA.out V6).mono ?_
        rintro e V7 ⟨rfl, hy⟩
        replace K := Lib.hid (K.out.trans (hy.mono K.out.size))
        replace C := Lib.hid (C.out.below hy C.out.lt)
        clear hy
        go_wp2
        go_ret
        exact ⟨rfl, K.out⟩
    · have d1 : decide (v ≥ 2) = true := decide_eq_true h1
      have d2 : decide (v ≤ 1024) = false := decide_eq_false h2
      have e : pw v 2 1024 = false := by unfold pw wi; rw [decide_eq_false h2, Bool.and_false]; rfl
      rw [e] at CD
      replace CD := Lib.hid (show ∀ W, Calls Try.prog 7 #[.agg cc2] W fun e w' => e = .returned (.int .i64 1) ∧ Below W.heap.size W w' from CD.out)
      clear e
      go_upto_region 33 with fail
      have L21 : (loadVar 27 ⟨g, 0, none⟩).run Try.prog V5 = .ok (.agg cc2) V5 := run_blk_load (P := Try.prog) 27 (g) _ C.out Try.underlying27 rfl IC2.out
      replace L21 := Lib.hid L21
      go_wp2_with (((with_reducible refine wpList_load_want (op := ⟨some 90, .load 27 (.tmp 7), _, _, _, _⟩) ?wg21 27 (.tmp 7) ?wo21 ⟨g, 0, none⟩ ?wx21 (.agg cc2) L21.out ?_); (case wg21 => rfl); (case wo21 => rfl); (case wx21 => rfl)))
      clear L21
      refine (CD.out V5).mono ?_
      rintro e V6 ⟨rfl, hy⟩
      replace K := Lib.hid (K.out.trans (hy.mono K.out.size))
      replace C := Lib.hid (C.out.below hy C.out.lt)
      clear hy
      go_wp2_with fail
      refine (CA.out V6).mono ?_
      rintro e V7 ⟨rfl, hy⟩
      replace K := Lib.hid (K.out.trans (hy.mono K.out.size))
      replace C := Lib.hid (C.out.below hy C.out.lt)
      clear hy
      go_wp2
      go_ret
      exact ⟨rfl, K.out⟩
  · have d1 : decide (v ≥ 2) = false := decide_eq_false h1
    have e : pw v 2 1024 = false := by unfold pw wi; rw [decide_eq_false h1]; rfl
    rw [e] at CD
    replace CD := Lib.hid (show ∀ W, Calls Try.prog 7 #[.agg cc2] W fun e w' => e = .returned (.int .i64 1) ∧ Below W.heap.size W w' from CD.out)
    clear e
    go_upto_region 33 with fail
    have L22 : (loadVar 27 ⟨g, 0, none⟩).run Try.prog V5 = .ok (.agg cc2) V5 := run_blk_load (P := Try.prog) 27 (g) _ C.out Try.underlying27 rfl IC2.out
    replace L22 := Lib.hid L22
    go_wp2_with (((with_reducible refine wpList_load_want (op := ⟨some 90, .load 27 (.tmp 7), _, _, _, _⟩) ?wg22 27 (.tmp 7) ?wo22 ⟨g, 0, none⟩ ?wx22 (.agg cc2) L22.out ?_); (case wg22 => rfl); (case wo22 => rfl); (case wx22 => rfl)))
    clear L22
    refine (CD.out V5).mono ?_
    rintro e V6 ⟨rfl, hy⟩
    replace K := Lib.hid (K.out.trans (hy.mono K.out.size))
    replace C := Lib.hid (C.out.below hy C.out.lt)
    clear hy
    go_wp2_with fail
    refine (CA.out V6).mono ?_
    rintro e V7 ⟨rfl, hy⟩
    replace K := Lib.hid (K.out.trans (hy.mono K.out.size))
    replace C := Lib.hid (C.out.below hy C.out.lt)
    clear hy
    go_wp2
    go_ret
    exact ⟨rfl, K.out⟩
set_option maxRecDepth 100000 in
set_option maxHeartbeats 4000000 in
theorem checks_2 (va : Value) (zs : List Int) (hl : zs.length ≤ 30) (which v : Int) (hw : which % 12 = 2) (w : World) (hv : Rd w va (ivs zs)) :
    Calls Try.prog 5 #[va, .int .i64 which, .int .i64 v] w fun e w' => e = .returned (.bool true) ∧ Below w.heap.size w w' := by
  have K := Lib.hid (Below.refl w.heap.size w)
  obtain ⟨ZC, hZC⟩ : ∃ Z, Z = cf0.cs := ⟨_, rfl⟩
  have z27 : ∀ W, (zeroValue 27).run Try.prog W = .ok (.agg ZC) W := by rw [hZC]; exact zero27
  have hZS : ZC.size = 48 := by rw [hZC]; exact cf_size _ cf0_fit
  clear hZC
  have CF := Lib.hid (fun W h => config_any va zs W h)
  have CA := Lib.hid (fun W => awake_any W)
  have CR := Lib.hid (fun W => round_any which 12 W (by decide) (by decide))
  rw [hw] at CR
  obtain ⟨c, hcz⟩ : ∃ c, c = cfg zs := ⟨_, rfl⟩
  have hc : c.Fit := by rw [hcz]; exact cfg_fit zs
  have hok : okC c = true := by rw [hcz]; exact cfg_ok zs
  rw [← hcz] at CF
  clear hcz
  have CC := Lib.hid (fun W => check_any c hc W)
  rw [hok, if_pos rfl] at CC
  have CD := Lib.hid (fun W => check_any _ (fit_dg c hc v) W)
  rw [ok_dg c hok v] at CD
  have SET := Lib.hid (set_dg c hc v)
  have IC2 := Lib.hid (cf_ic _ (fit_dg c hc v))
  have RY : Hid (c.cs.size = ZC.size) := by show _ = _; rw [cf_size _ hc, hZS]
  have RZ := Lib.hid (cf_ic _ hc)
  have RA := Lib.hid (cf_all c)
  obtain ⟨old, hold⟩ : ∃ u, c.cs[2]? = some u := ⟨_, (cf_get c hc).2.2.1⟩
  have HO := Lib.hid hold
  generalize Cf.cs { c with dg := v } = cc2 at *
  generalize c.cs = cc at *
  have HV := Lib.hid hv
  obtain ⟨a, cap, rfl, hlc, hlm⟩ := rdI_shape hv
  obtain ⟨n, hn⟩ : ∃ n, n = zs.length := ⟨_, rfl⟩
  rw [← hn] at HV CF hl ⊢
  have g1 : decide ((n : Int) > 30) = false := decide_eq_false (by omega)
  have g2 : ¬ n > 30 := by omega
  have g3 : ¬ 30 < n := by omega
  clear hv hw hc hok hZS hold hn hlc hlm
  go_enter Try.func5, Try.ntmps5
  go_wp2_with fail
  refine (CF.out w (HV.out.below K.out)).mono ?_
  rintro e V1 ⟨rfl, hy⟩
  replace K := Lib.hid (K.out.trans (hy.mono K.out.size))
  have qg := K.out.size
  clear hy
  go_wp2_with (((with_reducible refine wpList_blk_store (op := ⟨none, .store 27 (.tmp 7) (.tmp 17), _, _, _, _⟩) ?sg23 27 (.tmp 7) (.tmp 17) ?so23 (V1.heap.size) cc ?sx23 ?sy23 (Blk.new V1 27 ZC) RY.out RZ.out RA.out ?_); (case sg23 => rfl); (case so23 => rfl); (case sx23 => rfl); (case sy23 => rfl)))
  intro V2 hA hF hB
  have hy := ((Below.refl V1.heap.size V1).alloc (Nat.le_refl _) (.cells ZC 27)).trans (hB _ (Nat.le_refl _))
  replace K := Lib.hid (K.out.trans (hy.mono K.out.size))
  have C := Lib.hid hA
  clear hA hF hB hy
  obtain ⟨g, hg⟩ : ∃ g, g = V1.heap.size := ⟨_, rfl⟩
  rw [← hg] at C qg ⊢
  clear hg z27
  have L24 : (loadVar 27 ⟨g, 0, none⟩).run Try.prog V2 = .ok (.agg cc) V2 := run_blk_load (P := Try.prog) 27 (g) _ C.out Try.underlying27 rfl RZ.out
  replace L24 := Lib.hid L24
  go_wp2_with (((with_reducible refine wpList_load_want (op := ⟨some 18, .load 27 (.tmp 7), _, _, _, _⟩) ?wg24 27 (.tmp 7) ?wo24 ⟨g, 0, none⟩ ?wx24 (.agg cc) L24.out ?_); (case wg24 => rfl); (case wo24 => rfl); (case wx24 => rfl)))
  clear L24
  refine (CC.out V2).mono ?_
  rintro e V3 ⟨rfl, hy⟩
  replace K := Lib.hid (K.out.trans (hy.mono K.out.size))
  replace C := Lib.hid (C.out.below hy C.out.lt)
  clear hy
  go_wp2_with fail
  refine (same_below (CR.out V3)).mono ?_
  rintro e V4 ⟨rfl, hy⟩
  replace K := Lib.hid (K.out.trans (hy.mono K.out.size))
  replace C := Lib.hid (C.out.below hy C.out.lt)
  clear hy
  have c0 := (C.out.cell 2).trans HO.out
  have c1 := C.out.frozen 2
  go_upto_region 32 with fail
  have hA := C.out.set_ 2 (.int .i64 v)
  rw [SET.out] at hA
  replace K := Lib.hid (K.out.setCell (p := ⟨g, 2, none⟩) (by show _ ≤ g; omega) (.int .i64 v))
  replace C := Lib.hid hA
  clear hA c0 c1
  generalize V4.setCell ⟨g, 2, none⟩ (.int .i64 v) = V5 at *
  by_cases h1 : v ≥ 1
  · by_cases h2 : v ≤ 16
    · have d1 : decide (v ≥ 1) = true := decide_eq_true h1
      have d2 : decide (v ≤ 16) = true := decide_eq_true h2
      have e : wi v 1 16 = true := by unfold wi; rw [decide_eq_true h1, decide_eq_true h2]; rfl
      rw [e] at CD
      replace CD := Lib.hid (show ∀ W, Calls Try.prog 7 #[.agg cc2] W fun e w' => e = .returned (.int .i64 0) ∧ Below W.heap.size W w' from CD.out)
      clear e
      go_upto_region 33 with fail
      have L25 : (loadVar 27 ⟨g, 0, none⟩).run Try.prog V5 = .ok (.agg cc2) V5 := run_blk_load (P := Try.prog) 27 (g) _ C.out Try.underlying27 rfl IC2.out
      replace L25 := Lib.hid L25
      go_wp2_with (((with_reducible refine wpList_load_want (op := ⟨some 90, .load 27 (.tmp 7), _, _, _, _⟩) ?wg25 27 (.tmp 7) ?wo25 ⟨g, 0, none⟩ ?wx25 (.agg cc2) L25.out ?_); (case wg25 => rfl); (case wo25 => rfl); (case wx25 => rfl)))
      clear L25
      refine (CD.out V5).mono ?_
      rintro e V6 ⟨rfl, hy⟩
      replace K := Lib.hid (K.out.trans (hy.mono K.out.size))
      replace C := Lib.hid (C.out.below hy C.out.lt)
      clear hy
      go_wp2_with fail
      refine (CA.out V6).mono ?_
      rintro e V7 ⟨rfl, hy⟩
      replace K := Lib.hid (K.out.trans (hy.mono K.out.size))
      replace C := Lib.hid (C.out.below hy C.out.lt)
      clear hy
      go_wp2
      go_ret
      exact ⟨rfl, K.out⟩
    · have d1 : decide (v ≥ 1) = true := decide_eq_true h1
      have d2 : decide (v ≤ 16) = false := decide_eq_false h2
      have e : wi v 1 16 = false := by unfold wi; rw [decide_eq_false h2, Bool.and_false]
      rw [e] at CD
      replace CD := Lib.hid (show ∀ W, Calls Try.prog 7 #[.agg cc2] W fun e w' => e = .returned (.int .i64 1) ∧ Below W.heap.size W w' from CD.out)
      clear e
      go_upto_region 33 with fail
      have L26 : (loadVar 27 ⟨g, 0, none⟩).run Try.prog V5 = .ok (.agg cc2) V5 := run_blk_load (P := Try.prog) 27 (g) _ C.out Try.underlying27 rfl IC2.out
      replace L26 := Lib.hid L26
      go_wp2_with (((with_reducible refine wpList_load_want (op := ⟨some 90, .load 27 (.tmp 7), _, _, _, _⟩) ?wg26 27 (.tmp 7) ?wo26 ⟨g, 0, none⟩ ?wx26 (.agg cc2) L26.out ?_); (case wg26 => rfl); (case wo26 => rfl); (case wx26 => rfl)))
      clear L26
      refine (CD.out V5).mono ?_
      rintro e V6 ⟨rfl, hy⟩
      replace K := Lib.hid (K.out.trans (hy.mono K.out.size))
      replace C := Lib.hid (C.out.below hy C.out.lt)
      clear hy
      go_wp2_with fail
      refine (CA.out V6).mono ?_
      rintro e V7 ⟨rfl, hy⟩
      replace K := Lib.hid (K.out.trans (hy.mono K.out.size))
      replace C := Lib.hid (C.out.below hy C.out.lt)
      clear hy
      go_wp2
      go_ret
      exact ⟨rfl, K.out⟩
  · have d1 : decide (v ≥ 1) = false := decide_eq_false h1
    have e : wi v 1 16 = false := by unfold wi; rw [decide_eq_false h1]; rfl
    rw [e] at CD
    replace CD := Lib.hid (show ∀ W, Calls Try.prog 7 #[.agg cc2] W fun e w' => e = .returned (.int .i64 1) ∧ Below W.heap.size W w' from CD.out)
    clear e
    go_upto_region 33 with fail
    have L27 : (loadVar 27 ⟨g, 0, none⟩).run Try.prog V5 = .ok (.agg cc2) V5 := run_blk_load (P := Try.prog) 27 (g) _ C.out Try.underlying27 rfl IC2.out
    replace L27 := Lib.hid L27
    go_wp2_with (((with_reducible refine wpList_load_want (op := ⟨some 90, .load 27 (.tmp 7), _, _, _, _⟩) ?wg27 27 (.tmp 7) ?wo27 ⟨g, 0, none⟩ ?wx27 (.agg cc2) L27.out ?_); (case wg27 => rfl); (case wo27 => rfl); (case wx27 => rfl)))
    clear L27
    refine (CD.out V5).mono ?_
    rintro e V6 ⟨rfl, hy⟩
    replace K := Lib.hid (K.out.trans (hy.mono K.out.size))
    replace C := Lib.hid (C.out.below hy C.out.lt)
    clear hy
    go_wp2_with fail
    refine (CA.out V6).mono ?_
    rintro e V7 ⟨rfl, hy⟩
    replace K := Lib.hid (K.out.trans (hy.mono K.out.size))
    replace C := Lib.hid (C.out.below hy C.out.lt)
    clear hy
    go_wp2
    go_ret
    exact ⟨rfl, K.out⟩
set_option maxRecDepth 100000 in
set_option maxHeartbeats 4000000 in
theorem checks_3 (va : Value) (zs : List Int) (hl : zs.length ≤ 30) (which v : Int) (hw : which % 12 = 3) (w : World) (hv : Rd w va (ivs zs)) :
    Calls Try.prog 5 #[va, .int .i64 which, .int .i64 v] w fun e w' => e = .returned (.bool true) ∧ Below w.heap.size w w' := by
  have K := Lib.hid (Below.refl w.heap.size w)
  obtain ⟨ZC, hZC⟩ : ∃ Z, Z = cf0.cs := ⟨_, rfl⟩
  have z27 : ∀ W, (zeroValue 27).run Try.prog W = .ok (.agg ZC) W := by rw [hZC]; exact zero27
  have hZS : ZC.size = 48 := by rw [hZC]; exact cf_size _ cf0_fit
  clear hZC
  have CF := Lib.hid (fun W h => config_any va zs W h)
  have CA := Lib.hid (fun W => awake_any W)
  have CR := Lib.hid (fun W => round_any which 12 W (by decide) (by decide))
  rw [hw] at CR
  obtain ⟨c, hcz⟩ : ∃ c, c = cfg zs := ⟨_, rfl⟩
  have hc : c.Fit := by rw [hcz]; exact cfg_fit zs
  have hok : okC c = true := by rw [hcz]; exact cfg_ok zs
  rw [← hcz] at CF
  clear hcz
  have CC := Lib.hid (fun W => check_any c hc W)
  rw [hok, if_pos rfl] at CC
  have CD := Lib.hid (fun W => check_any _ (fit_bl c hc v) W)
  rw [ok_bl c hok v] at CD
  have SET := Lib.hid (set_bl c hc v)
  have IC2 := Lib.hid (cf_ic _ (fit_bl c hc v))
  have RY : Hid (c.cs.size = ZC.size) := by show _ = _; rw [cf_size _ hc, hZS]
  have RZ := Lib.hid (cf_ic _ hc)
  have RA := Lib.hid (cf_all c)
  obtain ⟨old, hold⟩ : ∃ u, c.cs[3]? = some u := ⟨_, (cf_get c hc).2.2.2.1⟩
  have HO := Lib.hid hold
  generalize Cf.cs { c with bl := v } = cc2 at *
  generalize c.cs = cc at *
  have HV := Lib.hid hv
  obtain ⟨a, cap, rfl, hlc, hlm⟩ := rdI_shape hv
  obtain ⟨n, hn⟩ : ∃ n, n = zs.length := ⟨_, rfl⟩
  rw [← hn] at HV CF hl ⊢
  have g1 : decide ((n : Int) > 30) = false := decide_eq_false (by omega)
  have g2 : ¬ n > 30 := by omega
  have g3 : ¬ 30 < n := by omega
  clear hv hw hc hok hZS hold hn hlc hlm
  go_enter Try.func5, Try.ntmps5
  go_wp2_with fail
  refine (CF.out w (HV.out.below K.out)).mono ?_
  rintro e V1 ⟨rfl, hy⟩
  replace K := Lib.hid (K.out.trans (hy.mono K.out.size))
  have qg := K.out.size
  clear hy
  go_wp2_with (((with_reducible refine wpList_blk_store (op := ⟨none, .store 27 (.tmp 7) (.tmp 17), _, _, _, _⟩) ?sg28 27 (.tmp 7) (.tmp 17) ?so28 (V1.heap.size) cc ?sx28 ?sy28 (Blk.new V1 27 ZC) RY.out RZ.out RA.out ?_); (case sg28 => rfl); (case so28 => rfl); (case sx28 => rfl); (case sy28 => rfl)))
  intro V2 hA hF hB
  have hy := ((Below.refl V1.heap.size V1).alloc (Nat.le_refl _) (.cells ZC 27)).trans (hB _ (Nat.le_refl _))
  replace K := Lib.hid (K.out.trans (hy.mono K.out.size))
  have C := Lib.hid hA
  clear hA hF hB hy
  obtain ⟨g, hg⟩ : ∃ g, g = V1.heap.size := ⟨_, rfl⟩
  rw [← hg] at C qg ⊢
  clear hg z27
  have L29 : (loadVar 27 ⟨g, 0, none⟩).run Try.prog V2 = .ok (.agg cc) V2 := run_blk_load (P := Try.prog) 27 (g) _ C.out Try.underlying27 rfl RZ.out
  replace L29 := Lib.hid L29
  go_wp2_with (((with_reducible refine wpList_load_want (op := ⟨some 18, .load 27 (.tmp 7), _, _, _, _⟩) ?wg29 27 (.tmp 7) ?wo29 ⟨g, 0, none⟩ ?wx29 (.agg cc) L29.out ?_); (case wg29 => rfl); (case wo29 => rfl); (case wx29 => rfl)))
  clear L29
  refine (CC.out V2).mono ?_
  rintro e V3 ⟨rfl, hy⟩
  replace K := Lib.hid (K.out.trans (hy.mono K.out.size))
  replace C := Lib.hid (C.out.below hy C.out.lt)
  clear hy
  go_wp2_with fail
  refine (same_below (CR.out V3)).mono ?_
  rintro e V4 ⟨rfl, hy⟩
  replace K := Lib.hid (K.out.trans (hy.mono K.out.size))
  replace C := Lib.hid (C.out.below hy C.out.lt)
  clear hy
  have c0 := (C.out.cell 3).trans HO.out
  have c1 := C.out.frozen 3
  go_upto_region 32 with fail
  have hA := C.out.set_ 3 (.int .i64 v)
  rw [SET.out] at hA
  replace K := Lib.hid (K.out.setCell (p := ⟨g, 3, none⟩) (by show _ ≤ g; omega) (.int .i64 v))
  replace C := Lib.hid hA
  clear hA c0 c1
  generalize V4.setCell ⟨g, 3, none⟩ (.int .i64 v) = V5 at *
  by_cases h1 : v ≥ 8
  · by_cases h2 : v ≤ 65536
    · obtain ⟨m, rfl⟩ : ∃ m : Nat, v = (m : Int) := ⟨v.toNat, by omega⟩
      have ha := and_i64 m (m - 1) (by omega) (by omega)
      have e1 : IntKind.i64.wrap ((m : Int) - 1) = ((m - 1 : Nat) : Int) := by rw [IntKind.wrap_i64]; omega
      have hpw : pw (m : Int) 8 65536 = decide (m &&& (m - 1) = 0) := by unfold pw wi; rw [decide_eq_true h1, decide_eq_true h2, Int.toNat_natCast]; rfl
      have d1 : decide ((m : Int) ≥ 8) = true := decide_eq_true h1
      have d2 : decide ((m : Int) ≤ 65536) = true := decide_eq_true h2
      generalize m - 1 = q at *
      generalize m &&& q = r at *
      by_cases h3 : r = 0
      · have d3 : ((r : Int) == 0) = true := by rw [beq_iff_eq]; omega
        have e : pw (m : Int) 8 65536 = true := by rw [hpw]; exact decide_eq_true h3
        rw [e] at CD
        replace CD := Lib.hid (show ∀ W, Calls Try.prog 7 #[.agg cc2] W fun e w' => e = .returned (.int .i64 0) ∧ Below W.heap.size W w' from CD.out)
        clear e hpw
        go_upto_region 33 with fail
        have L30 : (loadVar 27 ⟨g, 0, none⟩).run Try.prog V5 = .ok (.agg cc2) V5 := run_blk_load (P := Try.prog) 27 (g) _ C.out Try.underlying27 rfl IC2.out
        replace L30 := Lib.hid L30
        go_wp2_with (((with_reducible refine wpList_load_want (op := ⟨some 90, .load 27 (.tmp 7), _, _, _, _⟩) ?wg30 27 (.tmp 7) ?wo30 ⟨g, 0, none⟩ ?wx30 (.agg cc2) L30.out ?_); (case wg30 => rfl); (case wo30 => rfl); (case wx30 => rfl)))
        clear L30
        refine (CD.out V5).mono ?_
        rintro e V6 ⟨rfl, hy⟩
        replace K := Lib.hid (K.out.trans (hy.mono K.out.size))
        replace C := Lib.hid (C.out.below hy C.out.lt)
        clear hy
        go_wp2_with fail
        refine (CA.out V6).mono ?_
        rintro e V7 ⟨rfl, hy⟩
        replace K := Lib.hid (K.out.trans (hy.mono K.out.size))
        replace C := Lib.hid (C.out.below hy C.out.lt)
        clear hy
        go_wp2
        go_ret
        exact ⟨rfl, K.out⟩
      · have d3 : ((r : Int) == 0) = false := by rw [beq_eq_false_iff_ne]; omega
        have e : pw (m : Int) 8 65536 = false := by rw [hpw]; exact decide_eq_false h3
        rw [e] at CD
        replace CD := Lib.hid (show ∀ W, Calls Try.prog 7 #[.agg cc2] W fun e w' => e = .returned (.int .i64 1) ∧ Below W.heap.size W w' from CD.out)
        clear e hpw
        go_upto_region 33 with fail
        have L31 : (loadVar 27 ⟨g, 0, none⟩).run Try.prog V5 = .ok (.agg cc2) V5 := run_blk_load (P := Try.prog) 27 (g) _ C.out Try.underlying27 rfl IC2.out
        replace L31 := Lib.hid L31
        go_wp2_with (((with_reducible refine wpList_load_want (op := ⟨some 90, .load 27 (.tmp 7), _, _, _, _⟩) ?wg31 27 (.tmp 7) ?wo31 ⟨g, 0, none⟩ ?wx31 (.agg cc2) L31.out ?_); (case wg31 => rfl); (case wo31 => rfl); (case wx31 => rfl)))
        clear L31
        refine (CD.out V5).mono ?_
        rintro e V6 ⟨rfl, hy⟩
        replace K := Lib.hid (K.out.trans (hy.mono K.out.size))
        replace C := Lib.hid (C.out.below hy C.out.lt)
        clear hy
        go_wp2_with fail
        refine (CA.out V6).mono ?_
        rintro e V7 ⟨rfl, hy⟩
        replace K := Lib.hid (K.out.trans (hy.mono K.out.size))
        replace C := Lib.hid (C.out.below hy C.out.lt)
        clear hy
        go_wp2
        go_ret
        exact ⟨rfl, K.out⟩
    · have d1 : decide (v ≥ 8) = true := decide_eq_true h1
      have d2 : decide (v ≤ 65536) = false := decide_eq_false h2
      have e : pw v 8 65536 = false := by unfold pw wi; rw [decide_eq_false h2, Bool.and_false]; rfl
      rw [e] at CD
      replace CD := Lib.hid (show ∀ W, Calls Try.prog 7 #[.agg cc2] W fun e w' => e = .returned (.int .i64 1) ∧ Below W.heap.size W w' from CD.out)
      clear e
      go_upto_region 33 with fail
      have L32 : (loadVar 27 ⟨g, 0, none⟩).run Try.prog V5 = .ok (.agg cc2) V5 := run_blk_load (P := Try.prog) 27 (g) _ C.out Try.underlying27 rfl IC2.out
      replace L32 := Lib.hid L32
      go_wp2_with (((with_reducible refine wpList_load_want (op := ⟨some 90, .load 27 (.tmp 7), _, _, _, _⟩) ?wg32 27 (.tmp 7) ?wo32 ⟨g, 0, none⟩ ?wx32 (.agg cc2) L32.out ?_); (case wg32 => rfl); (case wo32 => rfl); (case wx32 => rfl)))
      clear L32
      refine (CD.out V5).mono ?_
      rintro e V6 ⟨rfl, hy⟩
      replace K := Lib.hid (K.out.trans (hy.mono K.out.size))
      replace C := Lib.hid (C.out.below hy C.out.lt)
      clear hy
      go_wp2_with fail
      refine (CA.out V6).mono ?_
      rintro e V7 ⟨rfl, hy⟩
      replace K := Lib.hid (K.out.trans (hy.mono K.out.size))
      replace C := Lib.hid (C.out.below hy C.out.lt)
      clear hy
      go_wp2
      go_ret
      exact ⟨rfl, K.out⟩
  · have d1 : decide (v ≥ 8) = false := decide_eq_false h1
    have e : pw v 8 65536 = false := by unfold pw wi; rw [decide_eq_false h1]; rfl
    rw [e] at CD
    replace CD := Lib.hid (show ∀ W, Calls Try.prog 7 #[.agg cc2] W fun e w' => e = .returned (.int .i64 1) ∧ Below W.heap.size W w' from CD.out)
    clear e
    go_upto_region 33 with fail
    have L33 : (loadVar 27 ⟨g, 0, none⟩).run Try.prog V5 = .ok (.agg cc2) V5 := run_blk_load (P := Try.prog) 27 (g) _ C.out Try.underlying27 rfl IC2.out
    replace L33 := Lib.hid L33
    go_wp2_with (((with_reducible refine wpList_load_want (op := ⟨some 90, .load 27 (.tmp 7), _, _, _, _⟩) ?wg33 27 (.tmp 7) ?wo33 ⟨g, 0, none⟩ ?wx33 (.agg cc2) L33.out ?_); (case wg33 => rfl); (case wo33 => rfl); (case wx33 => rfl)))
    clear L33
    refine (CD.out V5).mono ?_
    rintro e V6 ⟨rfl, hy⟩
    replace K := Lib.hid (K.out.trans (hy.mono K.out.size))
    replace C := Lib.hid (C.out.below hy C.out.lt)
    clear hy
    go_wp2_with fail
    refine (CA.out V6).mono ?_
    rintro e V7 ⟨rfl, hy⟩
    replace K := Lib.hid (K.out.trans (hy.mono K.out.size))
    replace C := Lib.hid (C.out.below hy C.out.lt)
    clear hy
    go_wp2
    go_ret
    exact ⟨rfl, K.out⟩
end Go.Proofs.Ytblkpnjmmdbgnaa
