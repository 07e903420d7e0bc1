/- Texts that the walks of this seat lean on, put together. -/
import Derived.Deep.CutBlock
import Derived.Deep.DeepCutAuto
import Derived.LoopTactic
import Derived.Handy
import Derived.Test.YtblkpnjmmdbgnaaTk
import Derived.Test.YtblkpnjmmdbgnaaM32
import Derived.Test.YtblkpnjmmdbgnaaM33
import Derived.Test.YtblkpnjmmdbgnaaM36
namespace Go.Proofs.Ytblkpnjmmdbgnaa
open Go.RowKit Go.Lib
set_option maxRecDepth 100000 in
set_option maxHeartbeats 4000000 in
theorem checks_4 (va : Value) (zs : List Int) (hl : zs.length ≤ 30) (which v : Int) (hw : which % 12 = 4) (w : World) (hv : Rd w va (ivs zs)) :
    Calls Try.prog 5 #[va, .int .i64 which, .int .i64 v] w fun e w' => e = .returned (.bool true) ∧ Below w.heap.size w w' := by
  have K := Lib.hid (Below.refl w.heap.size w)
  obtain ⟨ZC, hZC⟩ : ∃ Z, Z = cf0.cs := ⟨_, rfl⟩
  have z27 : ∀ W, (zeroValue 27).run Try.prog W = .ok (.agg ZC) W := by rw [hZC]; exact zero27
  have hZS : ZC.size = 48 := by rw [hZC]; exact cf_size _ cf0_fit
  clear hZC
  have CF := Lib.hid (fun W h => config_any va zs W h)
  have CA := Lib.hid (fun W => awake_any W)
  have CR := Lib.hid (fun W => round_any which 12 W (by decide) (by decide))
  rw [hw] at CR
  obtain ⟨c, hcz⟩ : ∃ c, c = cfg zs := ⟨_, rfl⟩
  have hc : c.Fit := by rw [hcz]; exact cfg_fit zs
  have hok : okC c = true := by rw [hcz]; exact cfg_ok zs
  rw [← hcz] at CF
  clear hcz
  have CC := Lib.hid (fun W => check_any c hc W)
  rw [hok, if_pos rfl] at CC
  have CD := Lib.hid (fun W => check_any _ (fit_hs c hc v) W)
  rw [ok_hs c hok v] at CD
  have SET := Lib.hid (set_hs c hc v)
  have IC2 := Lib.hid (cf_ic _ (fit_hs c hc v))
  have RY : Hid (c.cs.size = ZC.size) := by show _ = _; rw [cf_size _ hc, hZS]
  have RZ := Lib.hid (cf_ic _ hc)
  have RA := Lib.hid (cf_all c)
  obtain ⟨old, hold⟩ : ∃ u, c.cs[4]? = some u := ⟨_, (cf_get c hc).2.2.2.2.1⟩
  have HO := Lib.hid hold
  generalize Cf.cs { c with hs := v } = cc2 at *
  generalize c.cs = cc at *
  have HV := Lib.hid hv
  obtain ⟨a, cap, rfl, hlc, hlm⟩ := rdI_shape hv
  obtain ⟨n, hn⟩ : ∃ n, n = zs.length := ⟨_, rfl⟩
  rw [← hn] at HV CF hl ⊢
  have g1 : decide ((n : Int) > 30) = false := decide_eq_false (by omega)
  have g2 : ¬ n > 30 := by omega
  have g3 : ¬ 30 < n := by omega
  clear hv hw hc hok hZS hold hn hlc hlm
  go_enter Try.func5, Try.ntmps5
  go_wp2_with fail
  refine (CF.out w (HV.out.below K.out)).mono ?_
  rintro e V1 ⟨rfl, hy⟩
  replace K := Lib.hid (K.out.trans (hy.mono K.out.size))
  have qg := K.out.size
  clear hy
  go_wp2_with (((with_reducible refine wpList_blk_store (op := ⟨none, .store 27 (.tmp 7) (.tmp 17), _, _, _, _⟩) ?sg34 27 (.tmp 7) (.tmp 17) ?so34 (V1.heap.size) cc ?sx34 ?sy34 (Blk.new V1 27 ZC) RY.out RZ.out RA.out ?_); (case sg34 => rfl); (case so34 => rfl); (case sx34 => rfl); (case sy34 => rfl)))
  intro V2 hA hF hB
  have hy := ((Below.refl V1.heap.size V1).alloc (Nat.le_refl _) (.cells ZC 27)).trans (hB _ (Nat.le_refl _))
  replace K := Lib.hid (K.out.trans (hy.mono K.out.size))
  have C := Lib.hid hA
  clear hA hF hB hy
  obtain ⟨g, hg⟩ : ∃ g, g = V1.heap.size := ⟨_, rfl⟩
  rw [← hg] at C qg ⊢
  clear hg z27
  have L35 : (loadVar 27 ⟨g, 0, none⟩).run Try.prog V2 = .ok (.agg cc) V2 := run_blk_load (P := Try.prog) 27 (g) _ C.out Try.underlying27 rfl RZ.out
  replace L35 := Lib.hid L35
  go_wp2_with (((with_reducible refine wpList_load_want (op := ⟨some 18, .load 27 (.tmp 7), _, _, _, _⟩) ?wg35 27 (.tmp 7) ?wo35 ⟨g, 0, none⟩ ?wx35 (.agg cc) L35.out ?_); (case wg35 => rfl); (case wo35 => rfl); (case wx35 => rfl)))
  clear L35
  refine (CC.out V2).mono ?_
  rintro e V3 ⟨rfl, hy⟩
  replace K := Lib.hid (K.out.trans (hy.mono K.out.size))
  replace C := Lib.hid (C.out.below hy C.out.lt)
  clear hy
  go_wp2_with fail
  refine (same_below (CR.out V3)).mono ?_
  rintro e V4 ⟨rfl, hy⟩
  replace K := Lib.hid (K.out.trans (hy.mono K.out.size))
  replace C := Lib.hid (C.out.below hy C.out.lt)
  clear hy
  have c0 := (C.out.cell 4).trans HO.out
  have c1 := C.out.frozen 4
  go_upto_region 32 with fail
  have hA := C.out.set_ 4 (.int .i64 v)
  rw [SET.out] at hA
  replace K := Lib.hid (K.out.setCell (p := ⟨g, 4, none⟩) (by show _ ≤ g; omega) (.int .i64 v))
  replace C := Lib.hid hA
  clear hA c0 c1
  generalize V4.setCell ⟨g, 4, none⟩ (.int .i64 v) = V5 at *
  by_cases h1 : v ≥ 1
  · by_cases h2 : v ≤ 4
    · have d1 : decide (v ≥ 1) = true := decide_eq_true h1
      have d2 : decide (v ≤ 4) = true := decide_eq_true h2
      have e : wi v 1 4 = true := by unfold wi; rw [decide_eq_true h1, decide_eq_true h2]; rfl
      rw [e] at CD
      replace CD := Lib.hid (show ∀ W, Calls Try.prog 7 #[.agg cc2] W fun e w' => e = .returned (.int .i64 0) ∧ Below W.heap.size W w' from CD.out)
      clear e
      go_upto_region 33 with fail
      have L36 : (loadVar 27 ⟨g, 0, none⟩).run Try.prog V5 = .ok (.agg cc2) V5 := run_blk_load (P := Try.prog) 27 (g) _ C.out Try.underlying27 rfl IC2.out
      replace L36 := Lib.hid L36
      go_wp2_with (((with_reducible refine wpList_load_want (op := ⟨some 90, .load 27 (.tmp 7), _, _, _, _⟩) ?wg36 27 (.tmp 7) ?wo36 ⟨g, 0, none⟩ ?wx36 (.agg cc2) L36.out ?_); (case wg36 => rfl); (case wo36 => rfl); (case wx36 => rfl)))
      clear L36
      refine (CD.out V5).mono ?_
      rintro e V6 ⟨rfl, hy⟩
      replace K := Lib.hid (K.out.trans (hy.mono K.out.size))
      replace C := Lib.hid (C.out.below hy C.out.lt)
      clear hy
      go_wp2_with fail
      refine (CA.out V6).mono ?_
      rintro e V7 ⟨rfl, hy⟩
      replace K := Lib.hid (K.out.trans (hy.mono K.out.size))
      replace C := Lib.hid (C.out.below hy C.out.lt)
      clear hy
      go_wp2
      go_ret
      exact ⟨rfl, K.out⟩
    · have d1 : decide (v ≥ 1) = true := decide_eq_true h1
      have d2 : decide (v ≤ 4) = false := decide_eq_false h2
      have e : wi v 1 4 = false := by unfold wi; rw [decide_eq_false h2, Bool.and_false]
      rw [e] at CD
      replace CD := Lib.hid (show ∀ W, Calls Try.prog 7 #[.agg cc2] W fun e w' => e = .returned (.int .i64 1) ∧ Below W.heap.size W w' from CD.out)
      clear e
      go_upto_region 33 with fail
      have L37 : (loadVar 27 ⟨g, 0, none⟩).run Try.prog V5 = .ok (.agg cc2) V5 := run_blk_load (P := Try.prog) 27 (g) _ C.out Try.underlying27 rfl IC2.out
      replace L37 := Lib.hid L37
      go_wp2_with (((with_reducible refine wpList_load_want (op := ⟨some 90, .load 27 (.tmp 7), _, _, _, _⟩) ?wg37 27 (.tmp 7) ?wo37 ⟨g, 0, none⟩ ?wx37 (.agg cc2) L37.out ?_); (case wg37 => rfl); (case wo37 => rfl); (case wx37 => rfl)))
      clear L37
      refine (CD.out V5).mono ?_
      rintro e V6 ⟨rfl, hy⟩
      replace K := Lib.hid (K.out.trans (hy.mono K.out.size))
      replace C := Lib.hid (C.out.below hy C.out.lt)
      clear hy
      go_wp2_with fail
      refine (CA.out V6).mono ?_
      rintro e V7 ⟨rfl, hy⟩
      replace K := Lib.hid (K.out.trans (hy.mono K.out.size))
      replace C := Lib.hid (C.out.below hy C.out.lt)
      clear hy
      go_wp2
      go_ret
      exact ⟨rfl, K.out⟩
  · have d1 : decide (v ≥ 1) = false := decide_eq_false h1
    have e : wi v 1 4 = false := by unfold wi; rw [decide_eq_false h1]; rfl
    rw [e] at CD
    replace CD := Lib.hid (show ∀ W, Calls Try.prog 7 #[.agg cc2] W fun e w' => e = .returned (.int .i64 1) ∧ Below W.heap.size W w' from CD.out)
    clear e
    go_upto_region 33 with fail
    have L38 : (loadVar 27 ⟨g, 0, none⟩).run Try.prog V5 = .ok (.agg cc2) V5 := run_blk_load (P := Try.prog) 27 (g) _ C.out Try.underlying27 rfl IC2.out
    replace L38 := Lib.hid L38
    go_wp2_with (((with_reducible refine wpList_load_want (op := ⟨some 90, .load 27 (.tmp 7), _, _, _, _⟩) ?wg38 27 (.tmp 7) ?wo38 ⟨g, 0, none⟩ ?wx38 (.agg cc2) L38.out ?_); (case wg38 => rfl); (case wo38 => rfl); (case wx38 => rfl)))
    clear L38
    refine (CD.out V5).mono ?_
    rintro e V6 ⟨rfl, hy⟩
    replace K := Lib.hid (K.out.trans (hy.mono K.out.size))
    replace C := Lib.hid (C.out.below hy C.out.lt)
    clear hy
    go_wp2_with fail
    refine (CA.out V6).mono ?_
    rintro e V7 ⟨rfl, hy⟩
    replace K := Lib.hid (K.out.trans (hy.mono K.out.size))
    replace C := Lib.hid (C.out.below hy C.out.lt)
    clear hy
    go_wp2
    go_ret
    exact ⟨rfl, K.out⟩
set_option maxRecDepth 100000 in
set_option maxHeartbeats 4000000 in
theorem checks_5 (va : Value) (zs : List Int) (hl : zs.length ≤ 30) (which v : Int) (hw : which % 12 = 5) (w : World) (hv : Rd w va (ivs zs)) :
    Calls Try.prog 5 #[va, .int .i64 which, .int .i64 v] w fun e w' => e = .returned (.bool true) ∧ Below w.heap.size w w' := by
  have K := Lib.hid (Below.refl w.heap.size w)
  obtain ⟨ZC, hZC⟩ : ∃ Z, Z = cf0.cs := ⟨_, rfl⟩
  have z27 : ∀ W, (zeroValue 27).run Try.prog W = .ok (.agg ZC) W := by rw [hZC]; exact zero27
  have hZS : ZC.size = 48 := by rw [hZC]; exact cf_size _ cf0_fit
  clear hZC
  have CF := Lib.hid (fun W h => config_any va zs W h)
  have CA := Lib.hid (fun W => awake_any W)
  have CR := Lib.hid (fun W => round_any which 12 W (by decide) (by decide))
  rw [hw] at CR
  obtain ⟨c, hcz⟩ : ∃ c, c = cfg zs := ⟨_, rfl⟩
  have hc : c.Fit := by rw [hcz]; exact cfg_fit zs
  have hok : okC c = true := by rw [hcz]; exact cfg_ok zs
  rw [← hcz] at CF
  clear hcz
  have CC := Lib.hid (fun W => check_any c hc W)
  rw [hok, if_pos rfl] at CC
  have CD := Lib.hid (fun W => check_any _ (fit_sl c hc v) W)
  rw [ok_sl c hok v] at CD
  have SET := Lib.hid (set_sl c hc v)
  have IC2 := Lib.hid (cf_ic _ (fit_sl c hc v))
  have RY : Hid (c.cs.size = ZC.size) := by show _ = _; rw [cf_size _ hc, hZS]
  have RZ := Lib.hid (cf_ic _ hc)
  have RA := Lib.hid (cf_all c)
  obtain ⟨old, hold⟩ : ∃ u, c.cs[5]? = some u := ⟨_, (cf_get c hc).2.2.2.2.2.1⟩
  have HO := Lib.hid hold
  generalize Cf.cs { c with sl := v } = cc2 at *
  generalize c.cs = cc at *
  have HV := Lib.hid hv
  obtain ⟨a, cap, rfl, hlc, hlm⟩ := rdI_shape hv
  obtain ⟨n, hn⟩ : ∃ n, n = zs.length := ⟨_, rfl⟩
  rw [← hn] at HV CF hl ⊢
  have g1 : decide ((n : Int) > 30) = false := decide_eq_false (by omega)
  have g2 : ¬ n > 30 := by omega
  have g3 : ¬ 30 < n := by omega
  clear hv hw hc hok hZS hold hn hlc hlm
  go_enter Try.func5, Try.ntmps5
  go_wp2_with fail
  refine (CF.out w (HV.out.below K.out)).mono ?_
  rintro e V1 ⟨rfl, hy⟩
  replace K := Lib.hid (K.out.trans (hy.mono K.out.size))
  have qg := K.out.size
  clear hy
  go_wp2_with (((with_reducible refine wpList_blk_store (op := ⟨none, .store 27 (.tmp 7) (.tmp 17), _, _, _, _⟩) ?sg39 27 (.tmp 7) (.tmp 17) ?so39 (V1.heap.size) cc ?sx39 ?sy39 (Blk.new V1 27 ZC) RY.out RZ.out RA.out ?_); (case sg39 => rfl); (case so39 => rfl); (case sx39 => rfl); (case sy39 => rfl)))
  intro V2 hA hF hB
  have hy := ((Below.refl V1.heap.size V1).alloc (Nat.le_refl _) (.cells ZC 27)).trans (hB _ (Nat.le_refl _))
  replace K := Lib.hid (K.out.trans (hy.mono K.out.size))
  have C := Lib.hid hA
  clear hA hF hB hy
  obtain ⟨g, hg⟩ : ∃ g, g = V1.heap.size := ⟨_, rfl⟩
  rw [← hg] at C qg ⊢
  clear hg z27
  have L40 : (loadVar 27 ⟨g, 0, none⟩).run Try.prog V2 = .ok (.agg cc) V2 := run_blk_load (P := Try.prog) 27 (g) _ C.out Try.underlying27 rfl RZ.out
  replace L40 := Lib.hid L40
  go_wp2_with (((with_reducible refine wpList_load_want (op := ⟨some 18, .load 27 (.tmp 7), _, _, _, _⟩) ?wg40 27 (.tmp 7) ?wo40 ⟨g, 0, none⟩ ?wx40 (.agg cc) L40.out ?_); (case wg40 => rfl); (case wo40 => rfl); (case wx40 => rfl)))
  clear L40
  refine (CC.out V2).mono ?_
  rintro e V3 ⟨rfl, hy⟩
  replace K := Lib.hid (K.out.trans (hy.mono K.out.size))
  replace C := Lib.hid (C.out.below hy C.out.lt)
  clear hy
  go_wp2_with fail
  refine (same_below (CR.out V3)).mono ?_
  rintro e V4 ⟨rfl, hy⟩
  replace K := Lib.hid (K.out.trans (hy.mono K.out.size))
  replace C := Lib.hid (C.out.below hy C.out.lt)
  clear hy
  have c0 := (C.out.cell 5).trans HO.out
  have c1 := C.out.frozen 5
  go_upto_region 32 with fail
  have hA := C.out.set_ 5 (.int .i64 v)
  rw [SET.out] at hA
  replace K := Lib.hid (K.out.setCell (p := ⟨g, 5, none⟩) (by show _ ≤ g; omega) (.int .i64 v))
  replace C := Lib.hid hA
  clear hA c0 c1
  generalize V4.setCell ⟨g, 5, none⟩ (.int .i64 v) = V5 at *
  by_cases h1 : v ≥ 1
  · by_cases h2 : v ≤ 64
    · have d1 : decide (v ≥ 1) = true := decide_eq_true h1
      have d2 : decide (v ≤ 64) = true := decide_eq_true h2
      have e : wi v 1 64 = true := by unfold wi; rw [decide_eq_true h1, decide_eq_true h2]; rfl
      rw [e] at CD
      replace CD := Lib.hid (show ∀ W, Calls Try.prog 7 #[.agg cc2] W fun e w' => e = .returned (.int .i64 0) ∧ Below W.heap.size W w' from CD.out)
      clear e
      go_upto_region 33 with fail
      have L41 : (loadVar 27 ⟨g, 0, none⟩).run Try.prog V5 = .ok (.agg cc2) V5 := run_blk_load (P := Try.prog) 27 (g) _ C.out Try.underlying27 rfl IC2.out
      replace L41 := Lib.hid L41
      go_wp2_with (((with_reducible refine wpList_load_want (op := ⟨some 90, .load 27 (.tmp 7), _, _, _, _⟩) ?wg41 27 (.tmp 7) ?wo41 ⟨g, 0, none⟩ ?wx41 (.agg cc2) L41.out ?_); (case wg41 => rfl); (case wo41 => rfl); (case wx41 => rfl)))
      clear L41
      refine (CD.out V5).mono ?_
      rintro e V6 ⟨rfl, hy⟩
      replace K := Lib.hid (K.out.trans (hy.mono K.out.size))
      replace C := Lib.hid (C.out.below hy C.out.lt)
      clear hy
      go_wp2_with fail
      refine (CA.out V6).mono ?_
      rintro e V7 ⟨rfl, hy⟩
      replace K := Lib.hid (K.out.trans (hy.mono K.out.size))
      replace C := Lib.hid (C.out.below hy C.out.lt)
      clear hy
      go_wp2
      go_ret
      exact ⟨rfl, K.out⟩
    · have d1 : decide (v ≥ 1) = true := decide_eq_true h1
      have d2 : decide (v ≤ 64) = false := decide_eq_false h2
      have e : wi v 1 64 = false := by unfold wi; rw [decide_eq_false h2, Bool.and_false]
      rw [e] at CD
      replace CD := Lib.hid (show ∀ W, Calls Try.prog 7 #[.agg cc2] W fun e w' => e = .returned (.int .i64 1) ∧ Below W.heap.size W w' from CD.out)
      clear e
      go_upto_region 33 with fail
      have L42 : (loadVar 27 ⟨g, 0, none⟩).run Try.prog V5 = .ok (.agg cc2) V5 := run_blk_load (P := Try.prog) 27 (g) _ C.out Try.underlying27 rfl IC2.out
      replace L42 := Lib.hid L42
      go_wp2_with (((with_reducible refine wpList_load_want (op := ⟨some 90, .load 27 (.tmp 7), _, _, _, _⟩) ?wg42 27 (.tmp 7) ?wo42 ⟨g, 0, none⟩ ?wx42 (.agg cc2) L42.out ?_); (case wg42 => rfl); (case wo42 => rfl); (case wx42 => rfl)))
      clear L42
      refine (CD.out V5).mono ?_
      rintro e V6 ⟨rfl, hy⟩
      replace K := Lib.hid (K.out.trans (hy.mono K.out.size))
      replace C := Lib.hid (C.out.below hy C.out.lt)
      clear hy
      go_wp2_with fail
      refine (CA.out V6).mono ?_
      rintro e V7 ⟨rfl, hy⟩
      replace K := Lib.hid (K.out.trans (hy.mono K.out.size))
      replace C := Lib.hid (C.out.below hy C.out.lt)
      clear hy
      go_wp2
      go_ret
      exact ⟨rfl, K.out⟩
  · have d1 : decide (v ≥ 1) = false := decide_eq_false h1
    have e : wi v 1 64 = false := by unfold wi; rw [decide_eq_false h1]; rfl
    rw [e] at CD
    replace CD := Lib.hid (show ∀ W, Calls Try.prog 7 #[.agg cc2] W fun e w' => e = .returned (.int .i64 1) ∧ Below W.heap.size W w' from CD.out)
    clear e
    go_upto_region 33 with fail
    have L43 : (loadVar 27 ⟨g, 0, none⟩).run Try.prog V5 = .ok (.agg cc2) V5 := run_blk_load (P := Try.prog) 27 (g) _ C.out Try.underlying27 rfl IC2.out
    replace L43 := Lib.hid L43
    go_wp2_with (((with_reducible refine wpList_load_want (op := ⟨some 90, .load 27 (.tmp 7), _, _, _, _⟩) ?wg43 27 (.tmp 7) ?wo43 ⟨g, 0, none⟩ ?wx43 (.agg cc2) L43.out ?_); (case wg43 => rfl); (case wo43 => rfl); (case wx43 => rfl)))
    clear L43
    refine (CD.out V5).mono ?_
    rintro e V6 ⟨rfl, hy⟩
    replace K := Lib.hid (K.out.trans (hy.mono K.out.size))
    replace C := Lib.hid (C.out.below hy C.out.lt)
    clear hy
    go_wp2_with fail
    refine (CA.out V6).mono ?_
    rintro e V7 ⟨rfl, hy⟩
    replace K := Lib.hid (K.out.trans (hy.mono K.out.size))
    replace C := Lib.hid (C.out.below hy C.out.lt)
    clear hy
    go_wp2
    go_ret
    exact ⟨rfl, K.out⟩
set_option maxRecDepth 100000 in
set_option maxHeartbeats 4000000 in
theorem checks_6 (va : Value) (zs : List Int) (hl : zs.length ≤ 30) (which v : Int) (hw : which % 12 = 6) (w : World) (hv : Rd w va (ivs zs)) :
    Calls Try.prog 5 #[va, .int .i64 which, .int .i64 v] w fun e w' => e = .returned (.bool true) ∧ Below w.heap.size w w' := by
  have K := Lib.hid (Below.refl w.heap.size w)
  obtain ⟨ZC, hZC⟩ : ∃ Z, Z = cf0.cs := ⟨_, rfl⟩
  have z27 : ∀ W, (zeroValue 27).run Try.prog W = .ok (.agg ZC) W := by rw [hZC]; exact zero27
  have hZS : ZC.size = 48 := by rw [hZC]; exact cf_size _ cf0_fit
  clear hZC
  have CF := Lib.hid (fun W h => config_any va zs W h)
  have CA := Lib.hid (fun W => awake_any W)
  have CR := Lib.hid (fun W => round_any which 12 W (by decide) (by decide))
  rw [hw] at CR
  obtain ⟨c, hcz⟩ : ∃ c, c = cfg zs := ⟨_, rfl⟩
  have hc : c.Fit := by rw [hcz]; exact cfg_fit zs
  have hok : okC c = true := by rw [hcz]; exact cfg_ok zs
  rw [← hcz] at CF
  clear hcz
  have CC := Lib.hid (fun W => check_any c hc W)
  rw [hok, if_pos rfl] at CC
  have CD := Lib.hid (fun W => check_any _ (fit_vs c hc v) W)
  rw [ok_vs c hok v] at CD
  have SET := Lib.hid (set_vs c hc v)
  have IC2 := Lib.hid (cf_ic _ (fit_vs c hc v))
  have RY : Hid (c.cs.size = ZC.size) := by show _ = _; rw [cf_size _ hc, hZS]
  have RZ := Lib.hid (cf_ic _ hc)
  have RA := Lib.hid (cf_all c)
  obtain ⟨old, hold⟩ : ∃ u, c.cs[6]? = some u := ⟨_, (cf_get c hc).2.2.2.2.2.2.1⟩
  have HO := Lib.hid hold
  generalize Cf.cs { c with vs := v } = cc2 at *
  generalize c.cs = cc at *
  have HV := Lib.hid hv
  obtain ⟨a, cap, rfl, hlc, hlm⟩ := rdI_shape hv
  obtain ⟨n, hn⟩ : ∃ n, n = zs.length := ⟨_, rfl⟩
  rw [← hn] at HV CF hl ⊢
  have g1 : decide ((n : Int) > 30) = false := decide_eq_false (by omega)
  have g2 : ¬ n > 30 := by omega
  have g3 : ¬ 30 < n := by omega
  clear hv hw hc hok hZS hold hn hlc hlm
  go_enter Try.func5, Try.ntmps5
  go_wp2_with fail
  refine (CF.out w (HV.out.below K.out)).mono ?_
  rintro e V1 ⟨rfl, hy⟩
  replace K := Lib.hid (K.out.trans (hy.mono K.out.size))
  have qg := K.out.size
  clear hy
  go_wp2_with (((with_reducible refine wpList_blk_store (op := ⟨none, .store 27 (.tmp 7) (.tmp 17), _, _, _, _⟩) ?sg44 27 (.tmp 7) (.tmp 17) ?so44 (V1.heap.size) cc ?sx44 ?sy44 (Blk.new V1 27 ZC) RY.out RZ.out RA.out ?_); (case sg44 => rfl); (case so44 => rfl); (case sx44 => rfl); (case sy44 => rfl)))
  intro V2 hA hF hB
  have hy := ((Below.refl V1.heap.size V1).alloc (Nat.le_refl _) (.cells ZC 27)).trans (hB _ (Nat.le_refl _))
  replace K := Lib.hid (K.out.trans (hy.mono K.out.size))
  have C := Lib.hid hA
  clear hA hF hB hy
  obtain ⟨g, hg⟩ : ∃ g, g = V1.heap.size := ⟨_, rfl⟩
  rw [← hg] at C qg ⊢
  clear hg z27
  have L45 : (loadVar 27 ⟨g, 0, none⟩).run Try.prog V2 = .ok (.agg cc) V2 := run_blk_load (P := Try.prog) 27 (g) _ C.out Try.underlying27 rfl RZ.out
  replace L45 := Lib.hid L45
  go_wp2_with (((with_reducible refine wpList_load_want (op := ⟨some 18, .load 27 (.tmp 7), _, _, _, _⟩) ?wg45 27 (.tmp 7) ?wo45 ⟨g, 0, none⟩ ?wx45 (.agg cc) L45.out ?_); (case wg45 => rfl); (case wo45 => rfl); (case wx45 => rfl)))
  clear L45
  refine (CC.out V2).mono ?_
  rintro e V3 ⟨rfl, hy⟩
  replace K := Lib.hid (K.out.trans (hy.mono K.out.size))
  replace C := Lib.hid (C.out.below hy C.out.lt)
  clear hy
  go_wp2_with fail
  refine (same_below (CR.out V3)).mono ?_
  rintro e V4 ⟨rfl, hy⟩
  replace K := Lib.hid (K.out.trans (hy.mono K.out.size))
  replace C := Lib.hid (C.out.below hy C.out.lt)
  clear hy
  have c0 := (C.out.cell 6).trans HO.out
  have c1 := C.out.frozen 6
  go_upto_region 32 with fail
  have hA := C.out.set_ 6 (.int .i64 v)
  rw [SET.out] at hA
  replace K := Lib.hid (K.out.setCell (p := ⟨g, 6, none⟩) (by show _ ≤ g; omega) (.int .i64 v))
  replace C := Lib.hid hA
  clear hA c0 c1
  generalize V4.setCell ⟨g, 6, none⟩ (.int .i64 v) = V5 at *
  by_cases h1 : v ≥ 2
  · by_cases h2 : v ≤ 16
    · have d1 : decide (v ≥ 2) = true := decide_eq_true h1
      have d2 : decide (v ≤ 16) = true := decide_eq_true h2
      have e : wi v 2 16 = true := by unfold wi; rw [decide_eq_true h1, decide_eq_true h2]; rfl
      rw [e] at CD
      replace CD := Lib.hid (show ∀ W, Calls Try.prog 7 #[.agg cc2] W fun e w' => e = .returned (.int .i64 0) ∧ Below W.heap.size W w' from CD.out)
      clear e
      go_upto_region 33 with fail
      have L46 : (loadVar 27 ⟨g, 0, none⟩).run Try.prog V5 = .ok (.agg cc2) V5 := run_blk_load (P := Try.prog) 27 (g) _ C.out Try.underlying27 rfl IC2.out
      replace L46 := Lib.hid L46
      go_wp2_with (((with_reducible refine wpList_load_want (op := ⟨some 90, .load 27 (.tmp 7), _, _, _, _⟩) ?wg46 27 (.tmp 7) ?wo46 ⟨g, 0, none⟩ ?wx46 (.agg cc2) L46.out ?_); (case wg46 => rfl); (case wo46 => rfl); (case wx46 => rfl)))
      clear L46
      refine (CD.out V5).mono ?_
      rintro e V6 ⟨rfl, hy⟩
      replace K := Lib.hid (K.out.trans (hy.mono K.out.size))
      replace C := Lib.hid (C.out.below hy C.out.lt)
      clear hy
      go_wp2_with fail
      refine (CA.out V6).mono ?_
      rintro e V7 ⟨rfl, hy⟩
      replace K := Lib.hid (K.out.trans (hy.mono K.out.size))
      replace C := Lib.hid (C.out.below hy C.out.lt)
      clear hy
      go_wp2
      go_ret
      exact ⟨rfl, K.out⟩
    · have d1 : decide (v ≥ 2) = true := decide_eq_true h1
      have d2 : decide (v ≤ 16) = false := decide_eq_false h2
      have e : wi v 2 16 = false := by unfold wi; rw [decide_eq_false h2, Bool.and_false]
      rw [e] at CD
      replace CD := Lib.hid (show ∀ W, Calls Try.prog 7 #[.agg cc2] W fun e w' => e = .returned (.int .i64 1) ∧ Below W.heap.size W w' from CD.out)
      clear e
      go_upto_region 33 with fail
      have L47 : (loadVar 27 ⟨g, 0, none⟩).run Try.prog V5 = .ok (.agg cc2) V5 := run_blk_load (P := Try.prog) 27 (g) _ C.out Try.underlying27 rfl IC2.out
      replace L47 := Lib.hid L47
      go_wp2_with (((with_reducible refine wpList_load_want (op := ⟨some 90, .load 27 (.tmp 7), _, _, _, _⟩) ?wg47 27 (.tmp 7) ?wo47 ⟨g, 0, none⟩ ?wx47 (.agg cc2) L47.out ?_); (case wg47 => rfl); (case wo47 => rfl); (case wx47 => rfl)))
      clear L47
      refine (CD.out V5).mono ?_
      rintro e V6 ⟨rfl, hy⟩
      replace K := Lib.hid (K.out.trans (hy.mono K.out.size))
      replace C := Lib.hid (C.out.below hy C.out.lt)
      clear hy
      go_wp2_with fail
      refine (CA.out V6).mono ?_
      rintro e V7 ⟨rfl, hy⟩
      replace K := Lib.hid (K.out.trans (hy.mono K.out.size))
      replace C := Lib.hid (C.out.below hy C.out.lt)
      clear hy
      go_wp2
      go_ret
      exact ⟨rfl, K.out⟩
  · have d1 : decide (v ≥ 2) = false := decide_eq_false h1
    have e : wi v 2 16 = false := by unfold wi; rw [decide_eq_false h1]; rfl
    rw [e] at CD
    replace CD := Lib.hid (show ∀ W, Calls Try.prog 7 #[.agg cc2] W fun e w' => e = .returned (.int .i64 1) ∧ Below W.heap.size W w' from CD.out)
    clear e
    go_upto_region 33 with fail
    have L48 : (loadVar 27 ⟨g, 0, none⟩).run Try.prog V5 = .ok (.agg cc2) V5 := run_blk_load (P := Try.prog) 27 (g) _ C.out Try.underlying27 rfl IC2.out
    replace L48 := Lib.hid L48
    go_wp2_with (((with_reducible refine wpList_load_want (op := ⟨some 90, .load 27 (.tmp 7), _, _, _, _⟩) ?wg48 27 (.tmp 7) ?wo48 ⟨g, 0, none⟩ ?wx48 (.agg cc2) L48.out ?_); (case wg48 => rfl); (case wo48 => rfl); (case wx48 => rfl)))
    clear L48
    refine (CD.out V5).mono ?_
    rintro e V6 ⟨rfl, hy⟩
    replace K := Lib.hid (K.out.trans (hy.mono K.out.size))
    replace C := Lib.hid (C.out.below hy C.out.lt)
    clear hy
    go_wp2_with fail
    refine (CA.out V6).mono ?_
    rintro e V7 ⟨rfl, hy⟩
    replace K := Lib.hid (K.out.trans (hy.mono K.out.size))
    replace C := Lib.hid (C.out.below hy C.out.lt)
    clear hy
    go_wp2
    go_ret
    exact ⟨rfl, K.out⟩
set_option maxRecDepth 100000 in
set_option maxHeartbeats 4000000 in
theorem checks_7 (va : Value) (zs : List Int) (hl : zs.length ≤ 30) (which v : Int) (hw : which % 12 = 7) (w : World) (hv : Rd w va (ivs zs)) :
    Calls Try.prog 5 #[va, .int .i64 which, .int .i64 v] w fun e w' => e = .returned (.bool true) ∧ Below w.heap.size w w' := by
  have K := Lib.hid (Below.refl w.heap.size w)
  obtain ⟨ZC, hZC⟩ : ∃ Z, Z = cf0.cs := ⟨_, rfl⟩
  have z27 : ∀ W, (zeroValue 27).run Try.prog W = .ok (.agg ZC) W := by rw [hZC]; exact zero27
  have hZS : ZC.size = 48 := by rw [hZC]; exact cf_size _ cf0_fit
  clear hZC
  have CF := Lib.hid (fun W h => config_any va zs W h)
  have CA := Lib.hid (fun W => awake_any W)
  have CR := Lib.hid (fun W => round_any which 12 W (by decide) (by decide))
  rw [hw] at CR
  obtain ⟨c, hcz⟩ : ∃ c, c = cfg zs := ⟨_, rfl⟩
  have hc : c.Fit := by rw [hcz]; exact cfg_fit zs
  have hok : okC c = true := by rw [hcz]; exact cfg_ok zs
  rw [← hcz] at CF
  clear hcz
  have CC := Lib.hid (fun W => check_any c hc W)
  rw [hok, if_pos rfl] at CC
  have CD := Lib.hid (fun W => check_any _ (fit_qu c hc v) W)
  rw [ok_qu c hok v] at CD
  have SET := Lib.hid (set_qu c hc v)
  have IC2 := Lib.hid (cf_ic _ (fit_qu c hc v))
  have RY : Hid (c.cs.size = ZC.size) := by show _ = _; rw [cf_size _ hc, hZS]
  have RZ := Lib.hid (cf_ic _ hc)
  have RA := Lib.hid (cf_all c)
  obtain ⟨old, hold⟩ : ∃ u, c.cs[7]? = some u := ⟨_, (cf_get c hc).2.2.2.2.2.2.2.1⟩
  have HO := Lib.hid hold
  generalize Cf.cs { c with qu := v } = cc2 at *
  generalize c.cs = cc at *
  have HV := Lib.hid hv
  obtain ⟨a, cap, rfl, hlc, hlm⟩ := rdI_shape hv
  obtain ⟨n, hn⟩ : ∃ n, n = zs.length := ⟨_, rfl⟩
  rw [← hn] at HV CF hl ⊢
  have g1 : decide ((n : Int) > 30) = false := decide_eq_false (by omega)
  have g2 : ¬ n > 30 := by omega
  have g3 : ¬ 30 < n := by omega
  clear hv hw hc hok hZS hold hn hlc hlm
  go_enter Try.func5, Try.ntmps5
  go_wp2_with fail
  refine (CF.out w (HV.out.below K.out)).mono ?_
  rintro e V1 ⟨rfl, hy⟩
  replace K := Lib.hid (K.out.trans (hy.mono K.out.size))
  have qg := K.out.size
  clear hy
  go_wp2_with (((with_reducible refine wpList_blk_store (op := ⟨none, .store 27 (.tmp 7) (.tmp 17), _, _, _, _⟩) ?sg49 27 (.tmp 7) (.tmp 17) ?so49 (V1.heap.size) cc ?sx49 ?sy49 (Blk.new V1 27 ZC) RY.out RZ.out RA.out ?_); (case sg49 => rfl); (case so49 => rfl); (case sx49 => rfl); (case sy49 => rfl)))
  intro V2 hA hF hB
  have hy := ((Below.refl V1.heap.size V1).alloc (Nat.le_refl _) (.cells ZC 27)).trans (hB _ (Nat.le_refl _))
  replace K := Lib.hid (K.out.trans (hy.mono K.out.size))
  have C := Lib.hid hA
  clear hA hF hB hy
  obtain ⟨g, hg⟩ : ∃ g, g = V1.heap.size := ⟨_, rfl⟩
  rw [← hg] at C qg ⊢
  clear hg z27
  have L50 : (loadVar 27 ⟨g, 0, none⟩).run Try.prog V2 = .ok (.agg cc) V2 := run_blk_load (P := Try.prog) 27 (g) _ C.out Try.underlying27 rfl RZ.out
  replace L50 := Lib.hid L50
  go_wp2_with (((with_reducible refine wpList_load_want (op := ⟨some 18, .load 27 (.tmp 7), _, _, _, _⟩) ?wg50 27 (.tmp 7) ?wo50 ⟨g, 0, none⟩ ?wx50 (.agg cc) L50.out ?_); (case wg50 => rfl); (case wo50 => rfl); (case wx50 => rfl)))
  clear L50
  refine (CC.out V2).mono ?_
  rintro e V3 ⟨rfl, hy⟩
  replace K := Lib.hid (K.out.trans (hy.mono K.out.size))
  replace C := Lib.hid (C.out.below hy C.out.lt)
  clear hy
  go_wp2_with fail
  refine (same_below (CR.out V3)).mono ?_
  rintro e V4 ⟨rfl, hy⟩
  replace K := Lib.hid (K.out.trans (hy.mono K.out.size))
  replace C := Lib.hid (C.out.below hy C.out.lt)
  clear hy
  have c0 := (C.out.cell 7).trans HO.out
  have c1 := C.out.frozen 7
  go_upto_region 32 with fail
  have hA := C.out.set_ 7 (.int .i64 v)
  rw [SET.out] at hA
  replace K := Lib.hid (K.out.setCell (p := ⟨g, 7, none⟩) (by show _ ≤ g; omega) (.int .i64 v))
  replace C := Lib.hid hA
  clear hA c0 c1
  generalize V4.setCell ⟨g, 7, none⟩ (.int .i64 v) = V5 at *
  by_cases h1 : v ≥ 1
  · by_cases h2 : v ≤ 256
    · have d1 : decide (v ≥ 1) = true := decide_eq_true h1
      have d2 : decide (v ≤ 256) = true := decide_eq_true h2
      have e : wi v 1 256 = true := by unfold wi; rw [decide_eq_true h1, decide_eq_true h2]; rfl
      rw [e] at CD
      replace CD := Lib.hid (show ∀ W, Calls Try.prog 7 #[.agg cc2] W fun e w' => e = .returned (.int .i64 0) ∧ Below W.heap.size W w' from CD.out)
      clear e
      go_upto_region 33 with fail
      have L51 : (loadVar 27 ⟨g, 0, none⟩).run Try.prog V5 = .ok (.agg cc2) V5 := run_blk_load (P := Try.prog) 27 (g) _ C.out Try.underlying27 rfl IC2.out
      replace L51 := Lib.hid L51
      go_wp2_with (((with_reducible refine wpList_load_want (op := ⟨some 90, .load 27 (.tmp 7), _, _, _, _⟩) ?wg51 27 (.tmp 7) ?wo51 ⟨g, 0, none⟩ ?wx51 (.agg cc2) L51.out ?_); (case wg51 => rfl); (case wo51 => rfl); (case wx51 => rfl)))
      clear L51
      refine (CD.out V5).mono ?_
      rintro e V6 ⟨rfl, hy⟩
      replace K := Lib.hid (K.out.trans (hy.mono K.out.size))
      replace C := Lib.hid (C.out.below hy C.out.lt)
      clear hy
      go_wp2_with fail
      refine (CA.out V6).mono ?_
      rintro e V7 ⟨rfl, hy⟩
      replace K := Lib.hid (K.out.trans (hy.mono K.out.size))
      replace C := Lib.hid (C.out.below hy C.out.lt)
      clear hy
      go_wp2
      go_ret
      exact ⟨rfl, K.out⟩
    · have d1 : decide (v ≥ 1) = true := decide_eq_true h1
      have d2 : decide (v ≤ 256) = false := decide_eq_false h2
      have e : wi v 1 256 = false := by unfold wi; rw [decide_eq_false h2, Bool.and_false]
      rw [e] at CD
      replace CD := Lib.hid (show ∀ W, Calls Try.prog 7 #[.agg cc2] W fun e w' => e = .returned (.int .i64 1) ∧ Below W.heap.size W w' from CD.out)
      clear e
      go_upto_region 33 with fail
      have L52 : (loadVar 27 ⟨g, 0, none⟩).run Try.prog V5 = .ok (.agg cc2) V5 := run_blk_load (P := Try.prog) 27 (g) _ C.out Try.underlying27 rfl IC2.out
      replace L52 := Lib.hid L52
      go_wp2_with (((with_reducible refine wpList_load_want (op := ⟨some 90, .load 27 (.tmp 7), _, _, _, _⟩) ?wg52 27 (.tmp 7) ?wo52 ⟨g, 0, none⟩ ?wx52 (.agg cc2) L52.out ?_); (case wg52 => rfl); (case wo52 => rfl); (case wx52 => rfl)))
      clear L52
      refine (CD.out V5).mono ?_
      rintro e V6 ⟨rfl, hy⟩
      replace K := Lib.hid (K.out.trans (hy.mono K.out.size))
      replace C := Lib.hid (C.out.below hy C.out.lt)
      clear hy
      go_wp2_with fail
      refine (CA.out V6).mono ?_
      rintro e V7 ⟨rfl, hy⟩
      replace K := Lib.hid (K.out.trans (hy.mono K.out.size))
      replace C := Lib.hid (C.out.below hy C.out.lt)
      clear hy
      go_wp2
      go_ret
      exact ⟨rfl, K.out⟩
  · have d1 : decide (v ≥ 1) = false := decide_eq_false h1
    have e : wi v 1 256 = false := by unfold wi; rw [decide_eq_false h1]; rfl
    rw [e] at CD
    replace CD := Lib.hid (show ∀ W, Calls Try.prog 7 #[.agg cc2] W fun e w' => e = .returned (.int .i64 1) ∧ Below W.heap.size W w' from CD.out)
    clear e
    go_upto_region 33 with fail
    have L53 : (loadVar 27 ⟨g, 0, none⟩).run Try.prog V5 = .ok (.agg cc2) V5 := run_blk_load (P := Try.prog) 27 (g) _ C.out Try.underlying27 rfl IC2.out
    replace L53 := Lib.hid L53
    go_wp2_with (((with_reducible refine wpList_load_want (op := ⟨some 90, .load 27 (.tmp 7), _, _, _, _⟩) ?wg53 27 (.tmp 7) ?wo53 ⟨g, 0, none⟩ ?wx53 (.agg cc2) L53.out ?_); (case wg53 => rfl); (case wo53 => rfl); (case wx53 => rfl)))
    clear L53
    refine (CD.out V5).mono ?_
    rintro e V6 ⟨rfl, hy⟩
    replace K := Lib.hid (K.out.trans (hy.mono K.out.size))
    replace C := Lib.hid (C.out.below hy C.out.lt)
    clear hy
    go_wp2_with fail
    refine (CA.out V6).mono ?_
    rintro e V7 ⟨rfl, hy⟩
    replace K := Lib.hid (K.out.trans (hy.mono K.out.size))
    replace C := Lib.hid (C.out.below hy C.out.lt)
    clear hy
    go_wp2
    go_ret
    exact ⟨rfl, K.out⟩
end Go.Proofs.Ytblkpnjmmdbgnaa
namespace Go.Proofs.Ytblkpnjmmdbgnaa
open Go.RowKit
theorem row_rdI {w : World} {a : Option Addr} {len cap : Nat} {zs : List Int}
    (h : (a = none ∧ len = 0 ∧ cap = 0 ∧ zs = []) ∨ ∃ x, a = some x ∧ len ≤ cap ∧ cap ≤ maxLen ∧ zs.length = cap ∧ (∀ i, i < zs.length → w.cell? (x.add i) = some (.int .i64 (zs.getD i 0))) ∧ ∀ n ∈ zs, (Lit.int .i64 n).wf = true) :
    Rd w (.slice a len cap) (ivs (zs.take len)) := by
  rcases h with ⟨rfl, rfl, rfl, rfl⟩ | ⟨x, rfl, hl, hm, hz, hc, -⟩
  · exact ⟨none, 0, rfl, by simp [ivs], by simp [maxLen], .inl rfl⟩
  · have hlen : (ivs (zs.take len)).length = len := by simp [ivs]; omega
    refine ⟨some x, cap, by rw [hlen], by rw [hlen]; exact hl, hm, ?_⟩
    by_cases h0 : len = 0
    · exact .inl (by subst h0; simp [ivs])
    · obtain ⟨b, off, spot⟩ := x
      have h00 := hc 0 (by omega)
      have hspot : spot = none := by simpa [Addr.add] using World.cell?_spot h00
      subst hspot
      refine .inr ⟨b, off, rfl, ?_, fun i hi => ?_⟩
      · have := World.block_lt_of_cell? w _ h00
        simpa [Addr.add] using this
      · rw [hlen] at hi
        have h1 := hc i (by omega)
        have hadd : (⟨b, off, none⟩ : Addr).add i = ⟨b, off + i, none⟩ := by unfold Addr.add; split <;> simp_all
        rw [hadd] at h1
        rw [h1]
        simp [ivs, List.getD_eq_getElem?_getD, hi, List.getElem?_eq_getElem (show i < zs.length by omega)]
end Go.Proofs.Ytblkpnjmmdbgnaa
