/- GridActs: the ways refused at once. -/
import Derived.Test.YtimnmdeiiahakaaS19y1
import Derived.Deep.CutBlock
import Derived.Deep.DeepCutAuto
import Derived.LoopTactic
import Derived.Handy
namespace Go.Proofs.Ytimnmdeiiahakaa
open Go.RowKit Go.Lib

theorem eq24n (W : World) : (binOp .eql 24 (.pointer none) (.pointer none)).run Try.prog W = .ok (.bool true) W := by kernel_rfl
set_option maxRecDepth 100000 in
set_option maxHeartbeats 4000000 in
theorem acts_early (st0 sz0 : Int) (A0 : List Ac) (va : Value) (w : World) (hv : RdA w va A0) (hF : ∀ x ∈ A0, x.Fit) (hno : A0.length > 60 ∨ ¬ (1 ≤ st0 ∧ st0 ≤ 4 ∧ 1 ≤ sz0 ∧ sz0 ≤ 1024)) :
    Calls Try.prog 3 #[.int .i64 st0, .int .i64 sz0, va] w fun e w' => e = .returned (.bool true) ∧ Below w.heap.size w w' := by
  have K := Lib.hid (Below.refl w.heap.size w)
  have AW := Lib.hid awake_any
  have HV := Lib.hid hv
  have HF := Lib.hid hF
  obtain ⟨a0, cap0, rfl, -⟩ := hv
  obtain ⟨ln, hln⟩ : ∃ n, n = A0.length := ⟨_, rfl⟩
  rw [← hln] at HV hno ⊢
  have HLN := Lib.hid hln
  clear hln hF
  by_cases h0 : ln > 60
  · have e0a : decide ((ln : Int) > 60) = true := decide_eq_true (by omega)
    have e0b : decide (ln > 60) = true := decide_eq_true (by omega)
    have e0c : decide (60 < ln) = true := decide_eq_true (by omega)
    clear HV HLN HF hno h0
    go_enter Try.func3, Try.ntmps3
    go_wp2_with fail
    refine (AW.out w).mono ?_
    rintro e V1 ⟨rfl, hy⟩
    replace K := Lib.hid (K.out.trans (hy.mono K.out.size))
    clear hy
    go_wp2
    go_ret
    exact ⟨rfl, K.out⟩
  have e0d : decide (ln > 60) = false := decide_eq_false (by omega)
  have e0e : decide ((ln : Int) > 60) = false := decide_eq_false (by omega)
  have e0f : decide (60 < ln) = false := decide_eq_false (by omega)
  have hln : ln ≤ 60 := by omega
  clear h0
  rcases hno with hno | hr
  · exact absurd hno (by omega)
  · 
    have CN := Lib.hid (fun W => newI_no st0 sz0 hr W)
    have hq := eq24n
    by_cases r0 : st0 < 1
    · have d0 : decide (st0 < 1) = true := decide_eq_true r0
      clear hr HV HLN HF r0
      go_enter Try.func3, Try.ntmps3
      go_wp2_with fail
      refine (CN.out w).mono ?_
      rintro e V1 ⟨rfl, hy⟩
      replace K := Lib.hid (K.out.trans (hy.mono K.out.size))
      clear hy
      go_wp2_with fail
      refine (AW.out V1).mono ?_
      rintro e V2 ⟨rfl, hy⟩
      replace K := Lib.hid (K.out.trans (hy.mono K.out.size))
      clear hy
      go_wp2
      go_ret
      exact ⟨rfl, K.out⟩
    by_cases r1 : st0 > 4
    · have d0 : decide (st0 < 1) = false := decide_eq_false r0
      have d1 : decide (st0 > 4) = true := decide_eq_true r1
      clear hr HV HLN HF r0 r1
      go_enter Try.func3, Try.ntmps3
      go_wp2_with fail
      refine (CN.out w).mono ?_
      rintro e V1 ⟨rfl, hy⟩
      replace K := Lib.hid (K.out.trans (hy.mono K.out.size))
      clear hy
      go_wp2_with fail
      refine (AW.out V1).mono ?_
      rintro e V2 ⟨rfl, hy⟩
      replace K := Lib.hid (K.out.trans (hy.mono K.out.size))
      clear hy
      go_wp2
      go_ret
      exact ⟨rfl, K.out⟩
    by_cases r2 : sz0 < 1
    · have d0 : decide (st0 < 1) = false := decide_eq_false r0
      have d1 : decide (st0 > 4) = false := decide_eq_false r1
      have d2 : decide (sz0 < 1) = true := decide_eq_true r2
      clear hr HV HLN HF r0 r1 r2
      go_enter Try.func3, Try.ntmps3
      go_wp2_with fail
      refine (CN.out w).mono ?_
      rintro e V1 ⟨rfl, hy⟩
      replace K := Lib.hid (K.out.trans (hy.mono K.out.size))
      clear hy
      go_wp2_with fail
      refine (AW.out V1).mono ?_
      rintro e V2 ⟨rfl, hy⟩
      replace K := Lib.hid (K.out.trans (hy.mono K.out.size))
      clear hy
      go_wp2
      go_ret
      exact ⟨rfl, K.out⟩
    by_cases r3 : sz0 > 1024
    · have d0 : decide (st0 < 1) = false := decide_eq_false r0
      have d1 : decide (st0 > 4) = false := decide_eq_false r1
      have d2 : decide (sz0 < 1) = false := decide_eq_false r2
      have d3 : decide (sz0 > 1024) = true := decide_eq_true r3
      clear hr HV HLN HF r0 r1 r2 r3
      go_enter Try.func3, Try.ntmps3
      go_wp2_with fail
      refine (CN.out w).mono ?_
      rintro e V1 ⟨rfl, hy⟩
      replace K := Lib.hid (K.out.trans (hy.mono K.out.size))
      clear hy
      go_wp2_with fail
      refine (AW.out V1).mono ?_
      rintro e V2 ⟨rfl, hy⟩
      replace K := Lib.hid (K.out.trans (hy.mono K.out.size))
      clear hy
      go_wp2
      go_ret
      exact ⟨rfl, K.out⟩
    exact absurd ⟨by omega, by omega, by omega, by omega⟩ hr
end Go.Proofs.Ytimnmdeiiahakaa
