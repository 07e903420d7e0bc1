/- The contract of bazaaralike.Ints. -/
import Derived.Test.YtacjkcmiiajabaaOctC
namespace Go.Proofs.Ytacjkcmiiajabaa
open Go.RowKit
theorem its_get (zs : List Int) (i : Nat) (h : i < zs.length) : (zs.map (Value.int .i64))[i]? = some (.int .i64 (zs.getD i 0)) := by
  simp [List.getElem?_eq_getElem h, List.getD_eq_getElem?_getD]
theorem list_ext_getD (za zb : List Int) (h : za.length = zb.length) (hh : ∀ t, t < za.length → za.getD t 0 = zb.getD t 0) : za = zb := by
  apply List.ext_getElem h
  intro i h1 h2
  have := hh i h1
  simpa [List.getD_eq_getElem?_getD, List.getElem?_eq_getElem h1, List.getElem?_eq_getElem h2] using this
set_option maxHeartbeats 400000 in
theorem ints_lens (a b : Option Addr) (la lb ca cb : Nat) (w : World) (h : la ≠ lb) :
    Calls Try.prog 25 #[.slice a la ca, .slice b lb cb] w fun e w' => e = .returned (.bool false) ∧ w = w' := by
  have hne : ((la : Int) != (lb : Int)) = true := by rw [bne_iff_ne]; omega
  clear h
  go_enter Try.func25, Try.ntmps25
  go_wp2
  go_ret
  exact ⟨rfl, rfl⟩
set_option maxHeartbeats 400000 in
theorem ints_nil (a b : Option Addr) (ca cb : Nat) (w : World) :
    Calls Try.prog 25 #[.slice a 0 ca, .slice b 0 cb] w fun e w' => e = .returned (.bool true) ∧ w = w' := by
  go_enter Try.func25, Try.ntmps25
  go_wp2
  go_rounds 1
  go_ret
  exact ⟨rfl, rfl⟩
set_option maxHeartbeats 800000 in
theorem ints_some (ba bb oa ob l ca cb : Nat) (za zb : List Int) (w : World) (hl : l ≤ maxLen) (ea : l = za.length) (eb : l = zb.length)
    (hca : ∀ i, i < l → w.cell? ⟨ba, oa + i, none⟩ = (za.map (Value.int .i64))[i]?) (hcb : ∀ i, i < l → w.cell? ⟨bb, ob + i, none⟩ = (zb.map (Value.int .i64))[i]?) :
    Calls Try.prog 25 #[.slice (some ⟨ba, oa, none⟩) l ca, .slice (some ⟨bb, ob, none⟩) l cb] w fun e w' => e = .returned (.bool (decide (za = zb))) ∧ ∃ n, w' = w.drewN n := by
  unfold maxLen at hl
  have HA := Lib.hid hca
  have HB := Lib.hid hcb
  have EA := Lib.hid ea
  have EB := Lib.hid eb
  clear hca hcb ea eb
  go_enter Try.func25, Try.ntmps25
  go_wp2
  go_loopw [5] (fun i wr => ∃ j n : Nat, i = .int .i64 j ∧ j ≤ l ∧ (∀ t, t < j → za.getD t 0 = zb.getD t 0) ∧ wr = w.drewN n) (fun i _ => l - (intOf i).toNat)
  case atStart => exact ⟨0, 0, rfl, Nat.zero_le _, fun t h => by omega, rfl⟩
  case round =>
    obtain ⟨j, n, rfl, hj, hall, rfl⟩ := hrel
    have HH := Lib.hid hall
    clear hall
    by_cases h1 : j < l
    · have c1 := HA.out j h1
      have c2 := HB.out j h1
      rw [its_get _ _ (by rw [← EA.out]; exact h1)] at c1
      rw [its_get _ _ (by rw [← EB.out]; exact h1)] at c2
      by_cases hxy : za.getD j 0 = zb.getD j 0
      · have HX := Lib.hid hxy
        rw [← hxy] at c2
        obtain ⟨x, hx⟩ : ∃ x, x = za.getD j 0 := ⟨_, rfl⟩
        rw [← hx] at c1 c2
        clear hx hxy
        go_wp2
        go_quiet (fail)
        go_wp2
        go_roundw
        case rel =>
          refine ⟨j + 1, n + nq, by go_num, by omega, fun t ht => ?_, rfl⟩
          by_cases e : t = j
          · subst e; exact HX.out
          · exact HH.out t (by omega)
        case measure => simp [intOf]; omega
      · have hf : decide (za = zb) = false := by rw [decide_eq_false_iff_not]; intro e; exact hxy (by rw [e])
        have HF := Lib.hid hf
        obtain ⟨x, hx⟩ : ∃ x, x = za.getD j 0 := ⟨_, rfl⟩
        obtain ⟨y, hy⟩ : ∃ y, y = zb.getD j 0 := ⟨_, rfl⟩
        rw [← hx] at c1 hxy
        rw [← hy] at c2 hxy
        have hne : (x != y) = true := by rw [bne_iff_ne]; omega
        clear hx hy hxy hf
        go_wp2
        go_quiet (fail)
        go_wp2
        go_ret
        exact ⟨by rw [HF.out]; rfl, _, World.drewN_drewN _ _ _⟩
    · have hf : decide (za = zb) = true := by
        rw [decide_eq_true_iff]
        exact list_ext_getD za zb (by rw [← EA.out, ← EB.out]) (fun t ht => HH.out t (by rw [← EA.out] at ht; omega))
      have HF := Lib.hid hf
      clear hf
      go_wp2
      go_ret
      exact ⟨by rw [HF.out]; rfl, _, rfl⟩
theorem ints_any (va vb : Value) (za zb : List Int) (w : World) (ha : Rd w va (za.map (Value.int .i64))) (hb : Rd w vb (zb.map (Value.int .i64))) :
    Calls Try.prog 25 #[va, vb] w fun e w' => e = .returned (.bool (decide (za = zb))) ∧ ∃ n, w' = w.drewN n := by
  obtain ⟨aa, ca, rfl, hlca, hla, hxa⟩ := ha
  obtain ⟨ab, cb, rfl, hlcb, hlb, hxb⟩ := hb
  rw [List.length_map] at hlca hlcb hxa hxb ⊢
  rw [List.length_map]
  by_cases hl : za.length = zb.length
  · rcases hxa with hxa | ⟨ba, oa, rfl, _, hca⟩
    · obtain rfl : za = [] := by simpa using hxa
      obtain rfl : zb = [] := List.eq_nil_of_length_eq_zero (by simpa using hl.symm)
      refine (ints_nil _ _ _ _ _).mono ?_
      rintro e w' ⟨rfl, rfl⟩
      exact ⟨by simp, 0, rfl⟩
    · rcases hxb with hxb | ⟨bb, ob, rfl, _, hcb⟩
      · obtain rfl : zb = [] := by simpa using hxb
        obtain rfl : za = [] := List.eq_nil_of_length_eq_zero (by simpa using hl)
        refine (ints_nil _ _ _ _ _).mono ?_
        rintro e w' ⟨rfl, rfl⟩
        exact ⟨by simp, 0, rfl⟩
      · rw [← hl] at hcb ⊢
        exact ints_some _ _ _ _ _ _ _ za zb w (by omega) rfl hl hca hcb
  · refine (ints_lens _ _ _ _ _ _ _ hl).mono ?_
    rintro e w' ⟨rfl, rfl⟩
    refine ⟨?_, 0, rfl⟩
    rw [decide_eq_false (fun e => hl (by rw [e]))]
end Go.Proofs.Ytacjkcmiiajabaa
