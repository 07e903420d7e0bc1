/- The contracts of octet.Same, bazaaralike.Round and bazaaralike.Ints. -/
import Derived.Test.YtacjkcmiiajabaaProg
import Derived.Test.YtacjkcmiiajabaaMem
import Derived.Handy
import Derived.Lib.Hide
import Derived.BigQuiet
import Derived.Deep.QuietTactic
namespace Go.Proofs.Ytacjkcmiiajabaa
open Go.RowKit

/-- How many from the front on are the same. -/
def same : List Nat → List Nat → Nat
  | x :: a, y :: b => if x = y then same a b + 1 else 0
  | _, _ => 0

theorem same_step : ∀ (a b : List Nat) (j : Nat), j ≤ same a b → j < a.length → j < b.length → (a.getD j 0 = b.getD j 0 → j + 1 ≤ same a b) ∧ (a.getD j 0 ≠ b.getD j 0 → same a b = j)
  | [], b, j, _, h1, _ => by simp at h1
  | x :: a, [], j, _, _, h2 => by simp at h2
  | x :: a, y :: b, j, h, h1, h2 => by
    by_cases e : x = y
    · subst e
      simp only [same, if_true] at h ⊢
      cases j with
      | zero => simp
      | succ j =>
        have := same_step a b j (by omega) (by simpa using h1) (by simpa using h2)
        simp only [List.getD_cons_succ]
        exact ⟨fun h => by have := this.1 h; omega, fun h => by have := this.2 h; omega⟩
    · simp only [same, if_neg e] at h ⊢
      obtain rfl : j = 0 := by omega
      simp [e]
theorem same_le : ∀ (a b : List Nat), same a b ≤ a.length ∧ same a b ≤ b.length
  | [], b => by simp [same]
  | x :: a, [] => by simp [same]
  | x :: a, y :: b => by
    have := same_le a b
    simp only [same]
    split <;> simp <;> omega

set_option maxHeartbeats 800000 in
theorem same_none (a b : Option Addr) (la lb ca cb : Nat) (w : World) (ha : la ≤ maxLen) (hb : lb ≤ maxLen) (h : la = 0 ∨ lb = 0) :
    Calls Try.prog 24 #[.slice a la ca, .slice b lb cb] w fun e w' => e = .returned (.int .i64 0) ∧ w = w' := by
  unfold maxLen at ha hb
  rcases Nat.lt_or_ge lb la with hm | hm
  · obtain rfl : lb = 0 := by omega
    go_enter Try.func24, Try.ntmps24
    go_wp2
    go_rounds 1
    go_ret
    exact ⟨rfl, rfl⟩
  · obtain rfl : la = 0 := by omega
    go_enter Try.func24, Try.ntmps24
    go_wp2
    go_rounds 1
    go_ret
    exact ⟨rfl, rfl⟩

set_option maxHeartbeats 800000 in
theorem same_some (ba bb oa ob la lb ca cb : Nat) (za zb : List Nat) (w : World) (hla : la ≤ maxLen) (hlb : lb ≤ maxLen) (ea : la = za.length) (eb : lb = zb.length)
    (hca : ∀ i, i < la → w.cell? ⟨ba, oa + i, none⟩ = (nus .u8 za)[i]?) (hcb : ∀ i, i < lb → w.cell? ⟨bb, ob + i, none⟩ = (nus .u8 zb)[i]?) :
    Calls Try.prog 24 #[.slice (some ⟨ba, oa, none⟩) la ca, .slice (some ⟨bb, ob, none⟩) lb cb] w fun e w' => e = .returned (.int .i64 (same za zb : Nat)) ∧ ∃ n, w' = w.drewN n := by
  unfold maxLen at hla hlb
  have HA := Lib.hid hca
  have HB := Lib.hid hcb
  have EA := Lib.hid ea
  have EB := Lib.hid eb
  clear hca hcb ea eb
  rcases Nat.lt_or_ge lb la with hm | hm
  all_goals
    go_enter Try.func24, Try.ntmps24
    go_wp2
    go_loopw [13] (fun i wr => ∃ j n : Nat, j ≤ same za zb ∧ i = .int .i64 j ∧ j ≤ la ∧ j ≤ lb ∧ wr = w.drewN n) (fun i _ => la + lb - (intOf i).toNat)
    case atStart => exact ⟨0, 0, Nat.zero_le _, rfl, Nat.zero_le _, Nat.zero_le _, rfl⟩
    case round =>
      obtain ⟨j, n, hj, rfl, hja, hjb, rfl⟩ := hrel
      by_cases hlt : j < la ∧ j < lb
      · obtain ⟨h1, h2⟩ := hlt
        have s1 := same_step za zb j hj (by rw [← EA.out]; exact h1) (by rw [← EB.out]; exact h2)
        have c1 := HA.out j h1
        have c2 := HB.out j h2
        rw [nus_get _ _ _ (by rw [← EA.out]; exact h1)] at c1
        rw [nus_get _ _ _ (by rw [← EB.out]; exact h2)] at c2
        by_cases hxy : za.getD j 0 = zb.getD j 0
        · have t := s1.1 hxy
          rw [← hxy] at c2
          obtain ⟨x, hx⟩ : ∃ x, x = za.getD j 0 := ⟨_, rfl⟩
          rw [← hx] at c1 c2
          clear s1 hxy hx
          go_wp2
          go_quiet (fail)
          go_wp2
          go_roundw
          case rel => exact ⟨j + 1, n + nq, t, by go_num, by omega, by omega, rfl⟩
          case measure => simp [intOf]; omega
        · have t := s1.2 hxy
          obtain ⟨x, hx⟩ : ∃ x, x = za.getD j 0 := ⟨_, rfl⟩
          obtain ⟨y, hy⟩ : ∃ y, y = zb.getD j 0 := ⟨_, rfl⟩
          rw [← hx] at c1 hxy
          rw [← hy] at c2 hxy
          have hne : ((x : Int) != (y : Int)) = true := by rw [bne_iff_ne]; omega
          have T := Lib.hid t
          clear s1 hx hy t hxy
          go_wp2
          go_quiet (fail)
          go_wp2
          go_ret
          exact ⟨ret_int (by rw [T.out]), _, World.drewN_drewN _ _ _⟩
      · have hle := same_le za zb
        rw [← EA.out, ← EB.out] at hle
        have hj2 : la ≤ j ∨ lb ≤ j := by omega
        clear hlt
        rcases hj2 with h1 | h1
        all_goals first
          | (exfalso; omega)
          | (go_wp2
             go_ret
             exact ⟨ret_int (by omega), _, rfl⟩)

theorem same_any (va vb : Value) (za zb : List Nat) (w : World) (ha : Rd w va (nus .u8 za)) (hb : Rd w vb (nus .u8 zb)) :
    Calls Try.prog 24 #[va, vb] w fun e w' => e = .returned (.int .i64 (same za zb : Nat)) ∧ ∃ n, w' = w.drewN n := by
  obtain ⟨aa, ca, rfl, hlca, hla, hxa⟩ := ha
  obtain ⟨ab, cb, rfl, hlcb, hlb, hxb⟩ := hb
  rw [nus_length] at hlca hlcb hxa hxb ⊢
  rw [nus_length]
  rcases hxa with hxa | ⟨ba, oa, rfl, _, hca⟩
  · obtain rfl := (nus_nil _ _).1 hxa
    refine (same_none _ _ _ _ _ _ _ (by simp [maxLen]) (by omega) (.inl rfl)).mono ?_
    rintro e w' ⟨rfl, rfl⟩
    exact ⟨by simp [same], 0, rfl⟩
  · rcases hxb with hxb | ⟨bb, ob, rfl, _, hcb⟩
    · obtain rfl := (nus_nil _ _).1 hxb
      refine (same_none _ _ _ _ _ _ _ (by omega) (by simp [maxLen]) (.inr rfl)).mono ?_
      rintro e w' ⟨rfl, rfl⟩
      exact ⟨by simp [same], 0, rfl⟩
    · exact same_some _ _ _ _ _ _ _ _ za zb w (by omega) (by omega) rfl rfl hca hcb

theorem round_math (k n : Int) (h : 0 < n) : (k.tmod n + n) % n = k % n := by
  rw [Int.add_emod_right, Int.tmod_eq_emod]
  split
  · simp
  · rw [show ((n.natAbs : Int)) = n from by omega, Int.sub_emod_right, Int.emod_emod_of_dvd _ (Int.dvd_refl n)]
set_option maxHeartbeats 400000 in
theorem round_any (k n : Int) (w : World) (h : 0 < n) (h2 : n ≤ 4611686018427387903) :
    Calls Try.prog 23 #[.int .i64 k, .int .i64 n] w fun e w' => e = .returned (.int .i64 (k % n)) ∧ w = w' := by
  have a1 := Int.lt_tmod_of_pos k h
  have a2 := Int.tmod_lt_of_pos k h
  have hm := Lib.hid (round_math k n h)
  go_enter Try.func23, Try.ntmps23
  go_wp2
  go_ret
  exact ⟨ret_int (by rw [← hm.out]), rfl⟩

end Go.Proofs.Ytacjkcmiiajabaa
