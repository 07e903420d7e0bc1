/- Texts that the walks of this seat lean on, put together. -/
import Derived.Deep.CutBlock
import Derived.Deep.DeepCutAuto
import Derived.LoopTactic
import Derived.Handy
import Derived.Test.YtblkpnjmmdbgnaaTk
import Derived.Test.YtblkpnjmmdbgnaaM33
import Derived.Test.YtblkpnjmmdbgnaaM36
import Derived.Test.YtblkpnjmmdbgnaaM37
import Derived.Test.YtblkpnjmmdbgnaaM38
namespace Go.Proofs.Ytblkpnjmmdbgnaa
open Go.RowKit Go.Lib
set_option maxRecDepth 100000 in
set_option maxHeartbeats 4000000 in
theorem checks_8 (va : Value) (zs : List Int) (hl : zs.length ≤ 30) (which v : Int) (hw : which % 12 = 8) (w : World) (hv : Rd w va (ivs zs)) :
    Calls Try.prog 5 #[va, .int .i64 which, .int .i64 v] w fun e w' => e = .returned (.bool true) ∧ Below w.heap.size w w' := by
  have K := Lib.hid (Below.refl w.heap.size w)
  obtain ⟨ZC, hZC⟩ : ∃ Z, Z = cf0.cs := ⟨_, rfl⟩
  have z27 : ∀ W, (zeroValue 27).run Try.prog W = .ok (.agg ZC) W := by rw [hZC]; exact zero27
  have hZS : ZC.size = 48 := by rw [hZC]; exact cf_size _ cf0_fit
  clear hZC
  have CF := Lib.hid (fun W h => config_any va zs W h)
  have CA := Lib.hid (fun W => awake_any W)
  have CR := Lib.hid (fun W => round_any which 12 W (by decide) (by decide))
  rw [hw] at CR
  obtain ⟨c, hcz⟩ : ∃ c, c = cfg zs := ⟨_, rfl⟩
  have hc : c.Fit := by rw [hcz]; exact cfg_fit zs
  have hok : okC c = true := by rw [hcz]; exact cfg_ok zs
  rw [← hcz] at CF
  clear hcz
  have CC := Lib.hid (fun W => check_any c hc W)
  rw [hok, if_pos rfl] at CC
  have CD := Lib.hid (fun W => check_any _ (fit_ev c hc v) W)
  rw [ok_ev c hok v] at CD
  have SET := Lib.hid (set_ev c hc v)
  have IC2 := Lib.hid (cf_ic _ (fit_ev c hc v))
  have RY : Hid (c.cs.size = ZC.size) := by show _ = _; rw [cf_size _ hc, hZS]
  have RZ := Lib.hid (cf_ic _ hc)
  have RA := Lib.hid (cf_all c)
  obtain ⟨old, hold⟩ : ∃ u, c.cs[8]? = some u := ⟨_, (cf_get c hc).2.2.2.2.2.2.2.2.1⟩
  have HO := Lib.hid hold
  generalize Cf.cs { c with ev := v } = cc2 at *
  generalize c.cs = cc at *
  have HV := Lib.hid hv
  obtain ⟨a, cap, rfl, hlc, hlm⟩ := rdI_shape hv
  obtain ⟨n, hn⟩ : ∃ n, n = zs.length := ⟨_, rfl⟩
  rw [← hn] at HV CF hl ⊢
  have g1 : decide ((n : Int) > 30) = false := decide_eq_false (by omega)
  have g2 : ¬ n > 30 := by omega
  have g3 : ¬ 30 < n := by omega
  clear hv hw hc hok hZS hold hn hlc hlm
  go_enter Try.func5, Try.ntmps5
  go_wp2_with fail
  refine (CF.out w (HV.out.below K.out)).mono ?_
  rintro e V1 ⟨rfl, hy⟩
  replace K := Lib.hid (K.out.trans (hy.mono K.out.size))
  have qg := K.out.size
  clear hy
  go_wp2_with (((with_reducible refine wpList_blk_store (op := ⟨none, .store 27 (.tmp 7) (.tmp 17), _, _, _, _⟩) ?sg54 27 (.tmp 7) (.tmp 17) ?so54 (V1.heap.size) cc ?sx54 ?sy54 (Blk.new V1 27 ZC) RY.out RZ.out RA.out ?_); (case sg54 => rfl); (case so54 => rfl); (case sx54 => rfl); (case sy54 => rfl)))
  intro V2 hA hF hB
  have hy := ((Below.refl V1.heap.size V1).alloc (Nat.le_refl _) (.cells ZC 27)).trans (hB _ (Nat.le_refl _))
  replace K := Lib.hid (K.out.trans (hy.mono K.out.size))
  have C := Lib.hid hA
  clear hA hF hB hy
  obtain ⟨g, hg⟩ : ∃ g, g = V1.heap.size := ⟨_, rfl⟩
  rw [← hg] at C qg ⊢
  clear hg z27
  have L55 : (loadVar 27 ⟨g, 0, none⟩).run Try.prog V2 = .ok (.agg cc) V2 := run_blk_load (P := Try.prog) 27 (g) _ C.out Try.underlying27 rfl RZ.out
  replace L55 := Lib.hid L55
  go_wp2_with (((with_reducible refine wpList_load_want (op := ⟨some 18, .load 27 (.tmp 7), _, _, _, _⟩) ?wg55 27 (.tmp 7) ?wo55 ⟨g, 0, none⟩ ?wx55 (.agg cc) L55.out ?_); (case wg55 => rfl); (case wo55 => rfl); (case wx55 => rfl)))
  clear L55
  refine (CC.out V2).mono ?_
  rintro e V3 ⟨rfl, hy⟩
  replace K := Lib.hid (K.out.trans (hy.mono K.out.size))
  replace C := Lib.hid (C.out.below hy C.out.lt)
  clear hy
  go_wp2_with fail
  refine (same_below (CR.out V3)).mono ?_
  rintro e V4 ⟨rfl, hy⟩
  replace K := Lib.hid (K.out.trans (hy.mono K.out.size))
  replace C := Lib.hid (C.out.below hy C.out.lt)
  clear hy
  have c0 := (C.out.cell 8).trans HO.out
  have c1 := C.out.frozen 8
  go_upto_region 32 with fail
  have hA := C.out.set_ 8 (.int .i64 v)
  rw [SET.out] at hA
  replace K := Lib.hid (K.out.setCell (p := ⟨g, 8, none⟩) (by show _ ≤ g; omega) (.int .i64 v))
  replace C := Lib.hid hA
  clear hA c0 c1
  generalize V4.setCell ⟨g, 8, none⟩ (.int .i64 v) = V5 at *
  by_cases h1 : v ≥ 1
  · by_cases h2 : v ≤ 64
    · have d1 : decide (v ≥ 1) = true := decide_eq_true h1
      have d2 : decide (v ≤ 64) = true := decide_eq_true h2
      have e : wi v 1 64 = true := by unfold wi; rw [decide_eq_true h1, decide_eq_true h2]; rfl
      rw [e] at CD
      replace CD := Lib.hid (show ∀ W, Calls Try.prog 7 #[.agg cc2] W fun e w' => e = .returned (.int .i64 0) ∧ Below W.heap.size W w' from CD.out)
      clear e
      go_upto_region 33 with fail
      have L56 : (loadVar 27 ⟨g, 0, none⟩).run Try.prog V5 = .ok (.agg cc2) V5 := run_blk_load (P := Try.prog) 27 (g) _ C.out Try.underlying27 rfl IC2.out
      replace L56 := Lib.hid L56
      go_wp2_with (((with_reducible refine wpList_load_want (op := ⟨some 90, .load 27 (.tmp 7), _, _, _, _⟩) ?wg56 27 (.tmp 7) ?wo56 ⟨g, 0, none⟩ ?wx56 (.agg cc2) L56.out ?_); (case wg56 => rfl); (case wo56 => rfl); (case wx56 => rfl)))
      clear L56
      refine (CD.out V5).mono ?_
      rintro e V6 ⟨rfl, hy⟩
      replace K := Lib.hid (K.out.trans (hy.mono K.out.size))
      replace C := Lib.hid (C.out.below hy C.out.lt)
      clear hy
      go_wp2_with fail
      refine (CA.out V6).mono ?_
      rintro e V7 ⟨rfl, hy⟩
      replace K := Lib.hid (K.out.trans (hy.mono K.out.size))
      replace C := Lib.hid (C.out.below hy C.out.lt)
      clear hy
      go_wp2
      go_ret
      exact ⟨rfl, K.out⟩
    · have d1 : decide (v ≥ 1) = true := decide_eq_true h1
      have d2 : decide (v ≤ 64) = false := decide_eq_false h2
      have e : wi v 1 64 = false := by unfold wi; rw [decide_eq_false h2, Bool.and_false]
      rw [e] at CD
      replace CD := Lib.hid (show ∀ W, Calls Try.prog 7 #[.agg cc2] W fun e w' => e = .returned (.int .i64 1) ∧ Below W.heap.size W w' from CD.out)
      clear e
      go_upto_region 33 with fail
      have L57 : (loadVar 27 ⟨g, 0, none⟩).run Try.prog V5 = .ok (.agg cc2) V5 := run_blk_load (P := Try.prog) 27 (g) _ C.out Try.underlying27 rfl IC2.out
      replace L57 := Lib.hid L57
      go_wp2_with (((with_reducible refine wpList_load_want (op := ⟨some 90, .load 27 (.tmp 7), _, _, _, _⟩) ?wg57 27 (.tmp 7) ?wo57 ⟨g, 0, none⟩ ?wx57 (.agg cc2) L57.out ?_); (case wg57 => rfl); (case wo57 => rfl); (case wx57 => rfl)))
      clear L57
      refine (CD.out V5).mono ?_
      rintro e V6 ⟨rfl, hy⟩
      replace K := Lib.hid (K.out.trans (hy.mono K.out.size))
      replace C := Lib.hid (C.out.below hy C.out.lt)
      clear hy
      go_wp2_with fail
      refine (CA.out V6).mono ?_
      rintro e V7 ⟨rfl, hy⟩
      replace K := Lib.hid (K.out.trans (hy.mono K.out.size))
      replace C := Lib.hid (C.out.below hy C.out.lt)
      clear hy
      go_wp2
      go_ret
      exact ⟨rfl, K.out⟩
  · have d1 : decide (v ≥ 1) = false := decide_eq_false h1
    have e : wi v 1 64 = false := by unfold wi; rw [decide_eq_false h1]; rfl
    rw [e] at CD
    replace CD := Lib.hid (show ∀ W, Calls Try.prog 7 #[.agg cc2] W fun e w' => e = .returned (.int .i64 1) ∧ Below W.heap.size W w' from CD.out)
    clear e
    go_upto_region 33 with fail
    have L58 : (loadVar 27 ⟨g, 0, none⟩).run Try.prog V5 = .ok (.agg cc2) V5 := run_blk_load (P := Try.prog) 27 (g) _ C.out Try.underlying27 rfl IC2.out
    replace L58 := Lib.hid L58
    go_wp2_with (((with_reducible refine wpList_load_want (op := ⟨some 90, .load 27 (.tmp 7), _, _, _, _⟩) ?wg58 27 (.tmp 7) ?wo58 ⟨g, 0, none⟩ ?wx58 (.agg cc2) L58.out ?_); (case wg58 => rfl); (case wo58 => rfl); (case wx58 => rfl)))
    clear L58
    refine (CD.out V5).mono ?_
    rintro e V6 ⟨rfl, hy⟩
    replace K := Lib.hid (K.out.trans (hy.mono K.out.size))
    replace C := Lib.hid (C.out.below hy C.out.lt)
    clear hy
    go_wp2_with fail
    refine (CA.out V6).mono ?_
    rintro e V7 ⟨rfl, hy⟩
    replace K := Lib.hid (K.out.trans (hy.mono K.out.size))
    replace C := Lib.hid (C.out.below hy C.out.lt)
    clear hy
    go_wp2
    go_ret
    exact ⟨rfl, K.out⟩
set_option maxRecDepth 100000 in
set_option maxHeartbeats 4000000 in
theorem checks_9 (va : Value) (zs : List Int) (hl : zs.length ≤ 30) (which v : Int) (hw : which % 12 = 9) (w : World) (hv : Rd w va (ivs zs)) :
    Calls Try.prog 5 #[va, .int .i64 which, .int .i64 v] w fun e w' => e = .returned (.bool true) ∧ Below w.heap.size w w' := by
  have K := Lib.hid (Below.refl w.heap.size w)
  obtain ⟨ZC, hZC⟩ : ∃ Z, Z = cf0.cs := ⟨_, rfl⟩
  have z27 : ∀ W, (zeroValue 27).run Try.prog W = .ok (.agg ZC) W := by rw [hZC]; exact zero27
  have hZS : ZC.size = 48 := by rw [hZC]; exact cf_size _ cf0_fit
  clear hZC
  have CF := Lib.hid (fun W h => config_any va zs W h)
  have CA := Lib.hid (fun W => awake_any W)
  have CR := Lib.hid (fun W => round_any which 12 W (by decide) (by decide))
  rw [hw] at CR
  obtain ⟨c, hcz⟩ : ∃ c, c = cfg zs := ⟨_, rfl⟩
  have hc : c.Fit := by rw [hcz]; exact cfg_fit zs
  have hok : okC c = true := by rw [hcz]; exact cfg_ok zs
  rw [← hcz] at CF
  clear hcz
  have CC := Lib.hid (fun W => check_any c hc W)
  rw [hok, if_pos rfl] at CC
  have CD := Lib.hid (fun W => check_any _ (fit_id c hc v) W)
  rw [ok_id c hok v] at CD
  have SET := Lib.hid (set_id c hc v)
  have IC2 := Lib.hid (cf_ic _ (fit_id c hc v))
  have RY : Hid (c.cs.size = ZC.size) := by show _ = _; rw [cf_size _ hc, hZS]
  have RZ := Lib.hid (cf_ic _ hc)
  have RA := Lib.hid (cf_all c)
  obtain ⟨old, hold⟩ : ∃ u, c.cs[9]? = some u := ⟨_, (cf_get c hc).2.2.2.2.2.2.2.2.2.1⟩
  have HO := Lib.hid hold
  generalize Cf.cs { c with id := v } = cc2 at *
  generalize c.cs = cc at *
  have HV := Lib.hid hv
  obtain ⟨a, cap, rfl, hlc, hlm⟩ := rdI_shape hv
  obtain ⟨n, hn⟩ : ∃ n, n = zs.length := ⟨_, rfl⟩
  rw [← hn] at HV CF hl ⊢
  have g1 : decide ((n : Int) > 30) = false := decide_eq_false (by omega)
  have g2 : ¬ n > 30 := by omega
  have g3 : ¬ 30 < n := by omega
  clear hv hw hc hok hZS hold hn hlc hlm
  go_enter Try.func5, Try.ntmps5
  go_wp2_with fail
  refine (CF.out w (HV.out.below K.out)).mono ?_
  rintro e V1 ⟨rfl, hy⟩
  replace K := Lib.hid (K.out.trans (hy.mono K.out.size))
  have qg := K.out.size
  clear hy
  go_wp2_with (((with_reducible refine wpList_blk_store (op := ⟨none, .store 27 (.tmp 7) (.tmp 17), _, _, _, _⟩) ?sg59 27 (.tmp 7) (.tmp 17) ?so59 (V1.heap.size) cc ?sx59 ?sy59 (Blk.new V1 27 ZC) RY.out RZ.out RA.out ?_); (case sg59 => rfl); (case so59 => rfl); (case sx59 => rfl); (case sy59 => rfl)))
  intro V2 hA hF hB
  have hy := ((Below.refl V1.heap.size V1).alloc (Nat.le_refl _) (.cells ZC 27)).trans (hB _ (Nat.le_refl _))
  replace K := Lib.hid (K.out.trans (hy.mono K.out.size))
  have C := Lib.hid hA
  clear hA hF hB hy
  obtain ⟨g, hg⟩ : ∃ g, g = V1.heap.size := ⟨_, rfl⟩
  rw [← hg] at C qg ⊢
  clear hg z27
  have L60 : (loadVar 27 ⟨g, 0, none⟩).run Try.prog V2 = .ok (.agg cc) V2 := run_blk_load (P := Try.prog) 27 (g) _ C.out Try.underlying27 rfl RZ.out
  replace L60 := Lib.hid L60
  go_wp2_with (((with_reducible refine wpList_load_want (op := ⟨some 18, .load 27 (.tmp 7), _, _, _, _⟩) ?wg60 27 (.tmp 7) ?wo60 ⟨g, 0, none⟩ ?wx60 (.agg cc) L60.out ?_); (case wg60 => rfl); (case wo60 => rfl); (case wx60 => rfl)))
  clear L60
  refine (CC.out V2).mono ?_
  rintro e V3 ⟨rfl, hy⟩
  replace K := Lib.hid (K.out.trans (hy.mono K.out.size))
  replace C := Lib.hid (C.out.below hy C.out.lt)
  clear hy
  go_wp2_with fail
  refine (same_below (CR.out V3)).mono ?_
  rintro e V4 ⟨rfl, hy⟩
  replace K := Lib.hid (K.out.trans (hy.mono K.out.size))
  replace C := Lib.hid (C.out.below hy C.out.lt)
  clear hy
  have c0 := (C.out.cell 9).trans HO.out
  have c1 := C.out.frozen 9
  go_upto_region 32 with fail
  have hA := C.out.set_ 9 (.int .i64 v)
  rw [SET.out] at hA
  replace K := Lib.hid (K.out.setCell (p := ⟨g, 9, none⟩) (by show _ ≤ g; omega) (.int .i64 v))
  replace C := Lib.hid hA
  clear hA c0 c1
  generalize V4.setCell ⟨g, 9, none⟩ (.int .i64 v) = V5 at *
  by_cases h1 : v ≥ 1
  · by_cases h2 : v ≤ 1000
    · have d1 : decide (v ≥ 1) = true := decide_eq_true h1
      have d2 : decide (v ≤ 1000) = true := decide_eq_true h2
      have e : wi v 1 1000 = true := by unfold wi; rw [decide_eq_true h1, decide_eq_true h2]; rfl
      rw [e] at CD
      replace CD := Lib.hid (show ∀ W, Calls Try.prog 7 #[.agg cc2] W fun e w' => e = .returned (.int .i64 0) ∧ Below W.heap.size W w' from CD.out)
      clear e
      go_upto_region 33 with fail
      have L61 : (loadVar 27 ⟨g, 0, none⟩).run Try.prog V5 = .ok (.agg cc2) V5 := run_blk_load (P := Try.prog) 27 (g) _ C.out Try.underlying27 rfl IC2.out
      replace L61 := Lib.hid L61
      go_wp2_with (((with_reducible refine wpList_load_want (op := ⟨some 90, .load 27 (.tmp 7), _, _, _, _⟩) ?wg61 27 (.tmp 7) ?wo61 ⟨g, 0, none⟩ ?wx61 (.agg cc2) L61.out ?_); (case wg61 => rfl); (case wo61 => rfl); (case wx61 => rfl)))
      clear L61
      refine (CD.out V5).mono ?_
      rintro e V6 ⟨rfl, hy⟩
      replace K := Lib.hid (K.out.trans (hy.mono K.out.size))
      replace C := Lib.hid (C.out.below hy C.out.lt)
      clear hy
      go_wp2_with fail
      refine (CA.out V6).mono ?_
      rintro e V7 ⟨rfl, hy⟩
      replace K := Lib.hid (K.out.trans (hy.mono K.out.size))
      replace C := Lib.hid (C.out.below hy C.out.lt)
      clear hy
      go_wp2
      go_ret
      exact ⟨rfl, K.out⟩
    · have d1 : decide (v ≥ 1) = true := decide_eq_true h1
      have d2 : decide (v ≤ 1000) = false := decide_eq_false h2
      have e : wi v 1 1000 = false := by unfold wi; rw [decide_eq_false h2, Bool.and_false]
      rw [e] at CD
      replace CD := Lib.hid (show ∀ W, Calls Try.prog 7 #[.agg cc2] W fun e w' => e = .returned (.int .i64 1) ∧ Below W.heap.size W w' from CD.out)
      clear e
      go_upto_region 33 with fail
      have L62 : (loadVar 27 ⟨g, 0, none⟩).run Try.prog V5 = .ok (.agg cc2) V5 := run_blk_load (P := Try.prog) 27 (g) _ C.out Try.underlying27 rfl IC2.out
      replace L62 := Lib.hid L62
      go_wp2_with (((with_reducible refine wpList_load_want (op := ⟨some 90, .load 27 (.tmp 7), _, _, _, _⟩) ?wg62 27 (.tmp 7) ?wo62 ⟨g, 0, none⟩ ?wx62 (.agg cc2) L62.out ?_); (case wg62 => rfl); (case wo62 => rfl); (case wx62 => rfl)))
      clear L62
      refine (CD.out V5).mono ?_
      rintro e V6 ⟨rfl, hy⟩
      replace K := Lib.hid (K.out.trans (hy.mono K.out.size))
      replace C := Lib.hid (C.out.below hy C.out.lt)
      clear hy
      go_wp2_with fail
      refine (CA.out V6).mono ?_
      rintro e V7 ⟨rfl, hy⟩
      replace K := Lib.hid (K.out.trans (hy.mono K.out.size))
      replace C := Lib.hid (C.out.below hy C.out.lt)
      clear hy
      go_wp2
      go_ret
      exact ⟨rfl, K.out⟩
  · have d1 : decide (v ≥ 1) = false := decide_eq_false h1
    have e : wi v 1 1000 = false := by unfold wi; rw [decide_eq_false h1]; rfl
    rw [e] at CD
    replace CD := Lib.hid (show ∀ W, Calls Try.prog 7 #[.agg cc2] W fun e w' => e = .returned (.int .i64 1) ∧ Below W.heap.size W w' from CD.out)
    clear e
    go_upto_region 33 with fail
    have L63 : (loadVar 27 ⟨g, 0, none⟩).run Try.prog V5 = .ok (.agg cc2) V5 := run_blk_load (P := Try.prog) 27 (g) _ C.out Try.underlying27 rfl IC2.out
    replace L63 := Lib.hid L63
    go_wp2_with (((with_reducible refine wpList_load_want (op := ⟨some 90, .load 27 (.tmp 7), _, _, _, _⟩) ?wg63 27 (.tmp 7) ?wo63 ⟨g, 0, none⟩ ?wx63 (.agg cc2) L63.out ?_); (case wg63 => rfl); (case wo63 => rfl); (case wx63 => rfl)))
    clear L63
    refine (CD.out V5).mono ?_
    rintro e V6 ⟨rfl, hy⟩
    replace K := Lib.hid (K.out.trans (hy.mono K.out.size))
    replace C := Lib.hid (C.out.below hy C.out.lt)
    clear hy
    go_wp2_with fail
    refine (CA.out V6).mono ?_
    rintro e V7 ⟨rfl, hy⟩
    replace K := Lib.hid (K.out.trans (hy.mono K.out.size))
    replace C := Lib.hid (C.out.below hy C.out.lt)
    clear hy
    go_wp2
    go_ret
    exact ⟨rfl, K.out⟩
set_option maxRecDepth 100000 in
set_option maxHeartbeats 4000000 in
theorem checks_10 (va : Value) (zs : List Int) (hl : zs.length ≤ 30) (which v : Int) (hw : which % 12 = 10) (w : World) (hv : Rd w va (ivs zs)) :
    Calls Try.prog 5 #[va, .int .i64 which, .int .i64 v] w fun e w' => e = .returned (.bool true) ∧ Below w.heap.size w w' := by
  have K := Lib.hid (Below.refl w.heap.size w)
  obtain ⟨ZC, hZC⟩ : ∃ Z, Z = cf0.cs := ⟨_, rfl⟩
  have z27 : ∀ W, (zeroValue 27).run Try.prog W = .ok (.agg ZC) W := by rw [hZC]; exact zero27
  have hZS : ZC.size = 48 := by rw [hZC]; exact cf_size _ cf0_fit
  clear hZC
  have CF := Lib.hid (fun W h => config_any va zs W h)
  have CA := Lib.hid (fun W => awake_any W)
  have CR := Lib.hid (fun W => round_any which 12 W (by decide) (by decide))
  rw [hw] at CR
  obtain ⟨c, hcz⟩ : ∃ c, c = cfg zs := ⟨_, rfl⟩
  have hc : c.Fit := by rw [hcz]; exact cfg_fit zs
  have hok : okC c = true := by rw [hcz]; exact cfg_ok zs
  rw [← hcz] at CF
  clear hcz
  have CC := Lib.hid (fun W => check_any c hc W)
  rw [hok, if_pos rfl] at CC
  have CD := Lib.hid (fun W => check_any _ (fit_li c hc v) W)
  rw [ok_li c hok v] at CD
  have SET := Lib.hid (set_li c hc v)
  have IC2 := Lib.hid (cf_ic _ (fit_li c hc v))
  have RY : Hid (c.cs.size = ZC.size) := by show _ = _; rw [cf_size _ hc, hZS]
  have RZ := Lib.hid (cf_ic _ hc)
  have RA := Lib.hid (cf_all c)
  obtain ⟨old, hold⟩ : ∃ u, c.cs[10]? = some u := ⟨_, (cf_get c hc).2.2.2.2.2.2.2.2.2.2.1⟩
  have HO := Lib.hid hold
  generalize Cf.cs { c with li := v } = cc2 at *
  generalize c.cs = cc at *
  have HV := Lib.hid hv
  obtain ⟨a, cap, rfl, hlc, hlm⟩ := rdI_shape hv
  obtain ⟨n, hn⟩ : ∃ n, n = zs.length := ⟨_, rfl⟩
  rw [← hn] at HV CF hl ⊢
  have g1 : decide ((n : Int) > 30) = false := decide_eq_false (by omega)
  have g2 : ¬ n > 30 := by omega
  have g3 : ¬ 30 < n := by omega
  clear hv hw hc hok hZS hold hn hlc hlm
  go_enter Try.func5, Try.ntmps5
  go_wp2_with fail
  refine (CF.out w (HV.out.below K.out)).mono ?_
  rintro e V1 ⟨rfl, hy⟩
  replace K := Lib.hid (K.out.trans (hy.mono K.out.size))
  have qg := K.out.size
  clear hy
  go_wp2_with (((with_reducible refine wpList_blk_store (op := ⟨none, .store 27 (.tmp 7) (.tmp 17), _, _, _, _⟩) ?sg64 27 (.tmp 7) (.tmp 17) ?so64 (V1.heap.size) cc ?sx64 ?sy64 (Blk.new V1 27 ZC) RY.out RZ.out RA.out ?_); (case sg64 => rfl); (case so64 => rfl); (case sx64 => rfl); (case sy64 => rfl)))
  intro V2 hA hF hB
  have hy := ((Below.refl V1.heap.size V1).alloc (Nat.le_refl _) (.cells ZC 27)).trans (hB _ (Nat.le_refl _))
  replace K := Lib.hid (K.out.trans (hy.mono K.out.size))
  have C := Lib.hid hA
  clear hA hF hB hy
  obtain ⟨g, hg⟩ : ∃ g, g = V1.heap.size := ⟨_, rfl⟩
  rw [← hg] at C qg ⊢
  clear hg z27
  have L65 : (loadVar 27 ⟨g, 0, none⟩).run Try.prog V2 = .ok (.agg cc) V2 := run_blk_load (P := Try.prog) 27 (g) _ C.out Try.underlying27 rfl RZ.out
  replace L65 := Lib.hid L65
  go_wp2_with (((with_reducible refine wpList_load_want (op := ⟨some 18, .load 27 (.tmp 7), _, _, _, _⟩) ?wg65 27 (.tmp 7) ?wo65 ⟨g, 0, none⟩ ?wx65 (.agg cc) L65.out ?_); (case wg65 => rfl); (case wo65 => rfl); (case wx65 => rfl)))
  clear L65
  refine (CC.out V2).mono ?_
  rintro e V3 ⟨rfl, hy⟩
  replace K := Lib.hid (K.out.trans (hy.mono K.out.size))
  replace C := Lib.hid (C.out.below hy C.out.lt)
  clear hy
  go_wp2_with fail
  refine (same_below (CR.out V3)).mono ?_
  rintro e V4 ⟨rfl, hy⟩
  replace K := Lib.hid (K.out.trans (hy.mono K.out.size))
  replace C := Lib.hid (C.out.below hy C.out.lt)
  clear hy
  have c0 := (C.out.cell 10).trans HO.out
  have c1 := C.out.frozen 10
  go_upto_region 32 with fail
  have hA := C.out.set_ 10 (.int .i64 v)
  rw [SET.out] at hA
  replace K := Lib.hid (K.out.setCell (p := ⟨g, 10, none⟩) (by show _ ≤ g; omega) (.int .i64 v))
  replace C := Lib.hid hA
  clear hA c0 c1
  generalize V4.setCell ⟨g, 10, none⟩ (.int .i64 v) = V5 at *
  by_cases h1 : v ≥ 1
  · by_cases h2 : v ≤ 1000
    · have d1 : decide (v ≥ 1) = true := decide_eq_true h1
      have d2 : decide (v ≤ 1000) = true := decide_eq_true h2
      have e : wi v 1 1000 = true := by unfold wi; rw [decide_eq_true h1, decide_eq_true h2]; rfl
      rw [e] at CD
      replace CD := Lib.hid (show ∀ W, Calls Try.prog 7 #[.agg cc2] W fun e w' => e = .returned (.int .i64 0) ∧ Below W.heap.size W w' from CD.out)
      clear e
      go_upto_region 33 with fail
      have L66 : (loadVar 27 ⟨g, 0, none⟩).run Try.prog V5 = .ok (.agg cc2) V5 := run_blk_load (P := Try.prog) 27 (g) _ C.out Try.underlying27 rfl IC2.out
      replace L66 := Lib.hid L66
      go_wp2_with (((with_reducible refine wpList_load_want (op := ⟨some 90, .load 27 (.tmp 7), _, _, _, _⟩) ?wg66 27 (.tmp 7) ?wo66 ⟨g, 0, none⟩ ?wx66 (.agg cc2) L66.out ?_); (case wg66 => rfl); (case wo66 => rfl); (case wx66 => rfl)))
      clear L66
      refine (CD.out V5).mono ?_
      rintro e V6 ⟨rfl, hy⟩
      replace K := Lib.hid (K.out.trans (hy.mono K.out.size))
      replace C := Lib.hid (C.out.below hy C.out.lt)
      clear hy
      go_wp2_with fail
      refine (CA.out V6).mono ?_
      rintro e V7 ⟨rfl, hy⟩
      replace K := Lib.hid (K.out.trans (hy.mono K.out.size))
      replace C := Lib.hid (C.out.below hy C.out.lt)
      clear hy
      go_wp2
      go_ret
      exact ⟨rfl, K.out⟩
    · have d1 : decide (v ≥ 1) = true := decide_eq_true h1
      have d2 : decide (v ≤ 1000) = false := decide_eq_false h2
      have e : wi v 1 1000 = false := by unfold wi; rw [decide_eq_false h2, Bool.and_false]
      rw [e] at CD
      replace CD := Lib.hid (show ∀ W, Calls Try.prog 7 #[.agg cc2] W fun e w' => e = .returned (.int .i64 1) ∧ Below W.heap.size W w' from CD.out)
      clear e
      go_upto_region 33 with fail
      have L67 : (loadVar 27 ⟨g, 0, none⟩).run Try.prog V5 = .ok (.agg cc2) V5 := run_blk_load (P := Try.prog) 27 (g) _ C.out Try.underlying27 rfl IC2.out
      replace L67 := Lib.hid L67
      go_wp2_with (((with_reducible refine wpList_load_want (op := ⟨some 90, .load 27 (.tmp 7), _, _, _, _⟩) ?wg67 27 (.tmp 7) ?wo67 ⟨g, 0, none⟩ ?wx67 (.agg cc2) L67.out ?_); (case wg67 => rfl); (case wo67 => rfl); (case wx67 => rfl)))
      clear L67
      refine (CD.out V5).mono ?_
      rintro e V6 ⟨rfl, hy⟩
      replace K := Lib.hid (K.out.trans (hy.mono K.out.size))
      replace C := Lib.hid (C.out.below hy C.out.lt)
      clear hy
      go_wp2_with fail
      refine (CA.out V6).mono ?_
      rintro e V7 ⟨rfl, hy⟩
      replace K := Lib.hid (K.out.trans (hy.mono K.out.size))
      replace C := Lib.hid (C.out.below hy C.out.lt)
      clear hy
      go_wp2
      go_ret
      exact ⟨rfl, K.out⟩
  · have d1 : decide (v ≥ 1) = false := decide_eq_false h1
    have e : wi v 1 1000 = false := by unfold wi; rw [decide_eq_false h1]; rfl
    rw [e] at CD
    replace CD := Lib.hid (show ∀ W, Calls Try.prog 7 #[.agg cc2] W fun e w' => e = .returned (.int .i64 1) ∧ Below W.heap.size W w' from CD.out)
    clear e
    go_upto_region 33 with fail
    have L68 : (loadVar 27 ⟨g, 0, none⟩).run Try.prog V5 = .ok (.agg cc2) V5 := run_blk_load (P := Try.prog) 27 (g) _ C.out Try.underlying27 rfl IC2.out
    replace L68 := Lib.hid L68
    go_wp2_with (((with_reducible refine wpList_load_want (op := ⟨some 90, .load 27 (.tmp 7), _, _, _, _⟩) ?wg68 27 (.tmp 7) ?wo68 ⟨g, 0, none⟩ ?wx68 (.agg cc2) L68.out ?_); (case wg68 => rfl); (case wo68 => rfl); (case wx68 => rfl)))
    clear L68
    refine (CD.out V5).mono ?_
    rintro e V6 ⟨rfl, hy⟩
    replace K := Lib.hid (K.out.trans (hy.mono K.out.size))
    replace C := Lib.hid (C.out.below hy C.out.lt)
    clear hy
    go_wp2_with fail
    refine (CA.out V6).mono ?_
    rintro e V7 ⟨rfl, hy⟩
    replace K := Lib.hid (K.out.trans (hy.mono K.out.size))
    replace C := Lib.hid (C.out.below hy C.out.lt)
    clear hy
    go_wp2
    go_ret
    exact ⟨rfl, K.out⟩
set_option maxRecDepth 100000 in
set_option maxHeartbeats 4000000 in
theorem checks_11 (va : Value) (zs : List Int) (hl : zs.length ≤ 30) (which v : Int) (hw : which % 12 = 11) (w : World) (hv : Rd w va (ivs zs)) :
    Calls Try.prog 5 #[va, .int .i64 which, .int .i64 v] w fun e w' => e = .returned (.bool true) ∧ Below w.heap.size w w' := by
  have K := Lib.hid (Below.refl w.heap.size w)
  obtain ⟨ZC, hZC⟩ : ∃ Z, Z = cf0.cs := ⟨_, rfl⟩
  have z27 : ∀ W, (zeroValue 27).run Try.prog W = .ok (.agg ZC) W := by rw [hZC]; exact zero27
  have hZS : ZC.size = 48 := by rw [hZC]; exact cf_size _ cf0_fit
  clear hZC
  have CF := Lib.hid (fun W h => config_any va zs W h)
  have CA := Lib.hid (fun W => awake_any W)
  have CR := Lib.hid (fun W => round_any which 12 W (by decide) (by decide))
  rw [hw] at CR
  obtain ⟨c, hcz⟩ : ∃ c, c = cfg zs := ⟨_, rfl⟩
  have hc : c.Fit := by rw [hcz]; exact cfg_fit zs
  have hok : okC c = true := by rw [hcz]; exact cfg_ok zs
  rw [← hcz] at CF
  clear hcz
  have CC := Lib.hid (fun W => check_any c hc W)
  rw [hok, if_pos rfl] at CC
  have CD := Lib.hid (fun W => check_any _ (fit_fa c hc v) W)
  rw [ok_fa c hok v] at CD
  have SET := Lib.hid (set_fa c hc v)
  have IC2 := Lib.hid (cf_ic _ (fit_fa c hc v))
  have RY : Hid (c.cs.size = ZC.size) := by show _ = _; rw [cf_size _ hc, hZS]
  have RZ := Lib.hid (cf_ic _ hc)
  have RA := Lib.hid (cf_all c)
  obtain ⟨old, hold⟩ : ∃ u, c.cs[11]? = some u := ⟨_, (cf_get c hc).2.2.2.2.2.2.2.2.2.2.2.1⟩
  have HO := Lib.hid hold
  generalize Cf.cs { c with fa := v } = cc2 at *
  generalize c.cs = cc at *
  have HV := Lib.hid hv
  obtain ⟨a, cap, rfl, hlc, hlm⟩ := rdI_shape hv
  obtain ⟨n, hn⟩ : ∃ n, n = zs.length := ⟨_, rfl⟩
  rw [← hn] at HV CF hl ⊢
  have g1 : decide ((n : Int) > 30) = false := decide_eq_false (by omega)
  have g2 : ¬ n > 30 := by omega
  have g3 : ¬ 30 < n := by omega
  clear hv hw hc hok hZS hold hn hlc hlm
  go_enter Try.func5, Try.ntmps5
  go_wp2_with fail
  refine (CF.out w (HV.out.below K.out)).mono ?_
  rintro e V1 ⟨rfl, hy⟩
  replace K := Lib.hid (K.out.trans (hy.mono K.out.size))
  have qg := K.out.size
  clear hy
  go_wp2_with (((with_reducible refine wpList_blk_store (op := ⟨none, .store 27 (.tmp 7) (.tmp 17), _, _, _, _⟩) ?sg69 27 (.tmp 7) (.tmp 17) ?so69 (V1.heap.size) cc ?sx69 ?sy69 (Blk.new V1 27 ZC) RY.out RZ.out RA.out ?_); (case sg69 => rfl); (case so69 => rfl); (case sx69 => rfl); (case sy69 => rfl)))
  intro V2 hA hF hB
  have hy := ((Below.refl V1.heap.size V1).alloc (Nat.le_refl _) (.cells ZC 27)).trans (hB _ (Nat.le_refl _))
  replace K := Lib.hid (K.out.trans (hy.mono K.out.size))
  have C := Lib.hid hA
  clear hA hF hB hy
  obtain ⟨g, hg⟩ : ∃ g, g = V1.heap.size := ⟨_, rfl⟩
  rw [← hg] at C qg ⊢
  clear hg z27
  have L70 : (loadVar 27 ⟨g, 0, none⟩).run Try.prog V2 = .ok (.agg cc) V2 := run_blk_load (P := Try.prog) 27 (g) _ C.out Try.underlying27 rfl RZ.out
  replace L70 := Lib.hid L70
  go_wp2_with (((with_reducible refine wpList_load_want (op := ⟨some 18, .load 27 (.tmp 7), _, _, _, _⟩) ?wg70 27 (.tmp 7) ?wo70 ⟨g, 0, none⟩ ?wx70 (.agg cc) L70.out ?_); (case wg70 => rfl); (case wo70 => rfl); (case wx70 => rfl)))
  clear L70
  refine (CC.out V2).mono ?_
  rintro e V3 ⟨rfl, hy⟩
  replace K := Lib.hid (K.out.trans (hy.mono K.out.size))
  replace C := Lib.hid (C.out.below hy C.out.lt)
  clear hy
  go_wp2_with fail
  refine (same_below (CR.out V3)).mono ?_
  rintro e V4 ⟨rfl, hy⟩
  replace K := Lib.hid (K.out.trans (hy.mono K.out.size))
  replace C := Lib.hid (C.out.below hy C.out.lt)
  clear hy
  have c0 := (C.out.cell 11).trans HO.out
  have c1 := C.out.frozen 11
  go_upto_region 32 with fail
  have hA := C.out.set_ 11 (.int .i64 v)
  rw [SET.out] at hA
  replace K := Lib.hid (K.out.setCell (p := ⟨g, 11, none⟩) (by show _ ≤ g; omega) (.int .i64 v))
  replace C := Lib.hid hA
  clear hA c0 c1
  generalize V4.setCell ⟨g, 11, none⟩ (.int .i64 v) = V5 at *
  by_cases h1 : v ≥ 1
  · by_cases h2 : v ≤ 10
    · have d1 : decide (v ≥ 1) = true := decide_eq_true h1
      have d2 : decide (v ≤ 10) = true := decide_eq_true h2
      have e : wi v 1 10 = true := by unfold wi; rw [decide_eq_true h1, decide_eq_true h2]; rfl
      rw [e] at CD
      replace CD := Lib.hid (show ∀ W, Calls Try.prog 7 #[.agg cc2] W fun e w' => e = .returned (.int .i64 0) ∧ Below W.heap.size W w' from CD.out)
      clear e
      go_upto_region 33 with fail
      have L71 : (loadVar 27 ⟨g, 0, none⟩).run Try.prog V5 = .ok (.agg cc2) V5 := run_blk_load (P := Try.prog) 27 (g) _ C.out Try.underlying27 rfl IC2.out
      replace L71 := Lib.hid L71
      go_wp2_with (((with_reducible refine wpList_load_want (op := ⟨some 90, .load 27 (.tmp 7), _, _, _, _⟩) ?wg71 27 (.tmp 7) ?wo71 ⟨g, 0, none⟩ ?wx71 (.agg cc2) L71.out ?_); (case wg71 => rfl); (case wo71 => rfl); (case wx71 => rfl)))
      clear L71
      refine (CD.out V5).mono ?_
      rintro e V6 ⟨rfl, hy⟩
      replace K := Lib.hid (K.out.trans (hy.mono K.out.size))
      replace C := Lib.hid (C.out.below hy C.out.lt)
      clear hy
      go_wp2_with fail
      refine (CA.out V6).mono ?_
      rintro e V7 ⟨rfl, hy⟩
      replace K := Lib.hid (K.out.trans (hy.mono K.out.size))
      replace C := Lib.hid (C.out.below hy C.out.lt)
      clear hy
      go_wp2
      go_ret
      exact ⟨rfl, K.out⟩
    · have d1 : decide (v ≥ 1) = true := decide_eq_true h1
      have d2 : decide (v ≤ 10) = false := decide_eq_false h2
      have e : wi v 1 10 = false := by unfold wi; rw [decide_eq_false h2, Bool.and_false]
      rw [e] at CD
      replace CD := Lib.hid (show ∀ W, Calls Try.prog 7 #[.agg cc2] W fun e w' => e = .returned (.int .i64 1) ∧ Below W.heap.size W w' from CD.out)
      clear e
      go_upto_region 33 with fail
      have L72 : (loadVar 27 ⟨g, 0, none⟩).run Try.prog V5 = .ok (.agg cc2) V5 := run_blk_load (P := Try.prog) 27 (g) _ C.out Try.underlying27 rfl IC2.out
      replace L72 := Lib.hid L72
      go_wp2_with (((with_reducible refine wpList_load_want (op := ⟨some 90, .load 27 (.tmp 7), _, _, _, _⟩) ?wg72 27 (.tmp 7) ?wo72 ⟨g, 0, none⟩ ?wx72 (.agg cc2) L72.out ?_); (case wg72 => rfl); (case wo72 => rfl); (case wx72 => rfl)))
      clear L72
      refine (CD.out V5).mono ?_
      rintro e V6 ⟨rfl, hy⟩
      replace K := Lib.hid (K.out.trans (hy.mono K.out.size))
      replace C := Lib.hid (C.out.below hy C.out.lt)
      clear hy
      go_wp2_with fail
      refine (CA.out V6).mono ?_
      rintro e V7 ⟨rfl, hy⟩
      replace K := Lib.hid (K.out.trans (hy.mono K.out.size))
      replace C := Lib.hid (C.out.below hy C.out.lt)
      clear hy
      go_wp2
      go_ret
      exact ⟨rfl, K.out⟩
  · have d1 : decide (v ≥ 1) = false := decide_eq_false h1
    have e : wi v 1 10 = false := by unfold wi; rw [decide_eq_false h1]; rfl
    rw [e] at CD
    replace CD := Lib.hid (show ∀ W, Calls Try.prog 7 #[.agg cc2] W fun e w' => e = .returned (.int .i64 1) ∧ Below W.heap.size W w' from CD.out)
    clear e
    go_upto_region 33 with fail
    have L73 : (loadVar 27 ⟨g, 0, none⟩).run Try.prog V5 = .ok (.agg cc2) V5 := run_blk_load (P := Try.prog) 27 (g) _ C.out Try.underlying27 rfl IC2.out
    replace L73 := Lib.hid L73
    go_wp2_with (((with_reducible refine wpList_load_want (op := ⟨some 90, .load 27 (.tmp 7), _, _, _, _⟩) ?wg73 27 (.tmp 7) ?wo73 ⟨g, 0, none⟩ ?wx73 (.agg cc2) L73.out ?_); (case wg73 => rfl); (case wo73 => rfl); (case wx73 => rfl)))
    clear L73
    refine (CD.out V5).mono ?_
    rintro e V6 ⟨rfl, hy⟩
    replace K := Lib.hid (K.out.trans (hy.mono K.out.size))
    replace C := Lib.hid (C.out.below hy C.out.lt)
    clear hy
    go_wp2_with fail
    refine (CA.out V6).mono ?_
    rintro e V7 ⟨rfl, hy⟩
    replace K := Lib.hid (K.out.trans (hy.mono K.out.size))
    replace C := Lib.hid (C.out.below hy C.out.lt)
    clear hy
    go_wp2
    go_ret
    exact ⟨rfl, K.out⟩
end Go.Proofs.Ytblkpnjmmdbgnaa
namespace Go.Proofs.Ytblkpnjmmdbgnaa
open Go.RowKit Go.Lib
set_option maxRecDepth 100000 in
set_option maxHeartbeats 4000000 in
theorem checks_long (va : Value) (zs : List Int) (hl : ¬ zs.length ≤ 30) (which v : Int) (w : World) (hv : Rd w va (ivs zs)) :
    Calls Try.prog 5 #[va, .int .i64 which, .int .i64 v] w fun e w' => e = .returned (.bool true) ∧ Below w.heap.size w w' := by
  have CA := Lib.hid (fun W => awake_any W)
  obtain ⟨a, cap, rfl, -, -⟩ := rdI_shape hv
  generalize zs.length = n at *
  have g1 : decide ((n : Int) > 30) = true := decide_eq_true (by omega)
  have g3 : 30 < n := by omega
  clear hv hl
  go_enter Try.func5, Try.ntmps5
  go_wp2_with fail
  refine (CA.out _).mono ?_
  rintro e w' ⟨rfl, hy⟩
  go_wp2
  go_ret
  exact ⟨rfl, hy⟩
theorem checks_walk (va : Value) (zs : List Int) (which v : Int) (w : World) (hv : Rd w va (ivs zs)) :
    Calls Try.prog 5 #[va, .int .i64 which, .int .i64 v] w fun e w' => e = .returned (.bool true) ∧ Below w.heap.size w w' := by
  by_cases hl : zs.length ≤ 30
  · have h : which % 12 = 0 ∨ which % 12 = 1 ∨ which % 12 = 2 ∨ which % 12 = 3 ∨ which % 12 = 4 ∨ which % 12 = 5 ∨ which % 12 = 6 ∨ which % 12 = 7 ∨ which % 12 = 8 ∨ which % 12 = 9 ∨ which % 12 = 10 ∨ which % 12 = 11 := by omega
    rcases h with h | h | h | h | h | h | h | h | h | h | h | h
    · exact checks_0 va zs hl which v h w hv
    · exact checks_1 va zs hl which v h w hv
    · exact checks_2 va zs hl which v h w hv
    · exact checks_3 va zs hl which v h w hv
    · exact checks_4 va zs hl which v h w hv
    · exact checks_5 va zs hl which v h w hv
    · exact checks_6 va zs hl which v h w hv
    · exact checks_7 va zs hl which v h w hv
    · exact checks_8 va zs hl which v h w hv
    · exact checks_9 va zs hl which v h w hv
    · exact checks_10 va zs hl which v h w hv
    · exact checks_11 va zs hl which v h w hv
  · exact checks_long va zs hl which v w hv
end Go.Proofs.Ytblkpnjmmdbgnaa
