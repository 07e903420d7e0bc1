/- Texts that the walks of this seat lean on, put together. -/
import Derived.Test.YthkaadcgiplolaaDoorTk
import Derived.Test.YthkaadcgiplolaaDoorM24
namespace Go.Proofs.YthkaadcgiplolaaDoor
open Go.RowKit
theorem cb_nn : Lib.compareBytes [] [] = 0 := rfl
theorem cb_nc (y : UInt8) (b : List UInt8) : Lib.compareBytes [] (y :: b) = -1 := rfl
theorem cb_cn (x : UInt8) (a : List UInt8) : Lib.compareBytes (x :: a) [] = 1 := rfl
theorem cb_cc (x y : UInt8) (a b : List UInt8) : Lib.compareBytes (x :: a) (y :: b) = if x < y then -1 else if y < x then 1 else Lib.compareBytes a b := rfl
theorem u8_tri (x y : UInt8) : x < y ∧ ¬ y < x ∧ x ≠ y ∨ ¬ x < y ∧ y < x ∧ x ≠ y ∨ ¬ x < y ∧ ¬ y < x ∧ x = y := by
  rw [UInt8.lt_iff_toNat_lt, UInt8.lt_iff_toNat_lt]
  by_cases h : x = y
  · subst h; exact .inr (.inr ⟨Nat.lt_irrefl _, Nat.lt_irrefl _, rfl⟩)
  · have : x.toNat ≠ y.toNat := fun e => h (UInt8.toNat_inj.1 e)
    rcases Nat.lt_or_ge x.toNat y.toNat with q | q
    · exact .inl ⟨q, by omega, h⟩
    · exact .inr (.inl ⟨by omega, by omega, h⟩)
theorem cb_less : ∀ a b : List UInt8, Op.bytesLess a b = decide (Lib.compareBytes a b < 0)
  | [], [] => by rw [cb_nn]; rfl
  | [], y :: b => by rw [cb_nc]; rfl
  | x :: a, [] => by rw [cb_cn]; rfl
  | x :: a, y :: b => by
    have ih := cb_less a b
    rw [cb_cc]
    show (decide (x < y) || (x == y && Op.bytesLess a b)) = _
    rw [ih]
    rcases u8_tri x y with ⟨h1, h2, h3⟩ | ⟨h1, h2, h3⟩ | ⟨h1, h2, h3⟩
    · simp [h1]
    · have : (x == y) = false := beq_eq_false_iff_ne.2 h3
      simp [h1, h2, this]
    · subst h3; simp [h1]
theorem cb_eq : ∀ a b : List UInt8, Lib.compareBytes a b = 0 ↔ a = b
  | [], [] => by simp [cb_nn]
  | [], y :: b => by simp [cb_nc]
  | x :: a, [] => by simp [cb_cn]
  | x :: a, y :: b => by
    have ih := cb_eq a b
    rw [cb_cc]
    rcases u8_tri x y with ⟨h1, h2, h3⟩ | ⟨h1, h2, h3⟩ | ⟨h1, h2, h3⟩
    · simp [h1, h3]
    · simp [h1, h2, h3]
    · subst h3; simp [h1, ih]
theorem cb_neg : ∀ a b : List UInt8, Lib.compareBytes b a = - Lib.compareBytes a b
  | [], [] => by simp [cb_nn]
  | [], y :: b => by simp [cb_nc, cb_cn]
  | x :: a, [] => by simp [cb_nc, cb_cn]
  | x :: a, y :: b => by
    have ih := cb_neg a b
    rw [cb_cc, cb_cc]
    rcases u8_tri x y with ⟨h1, h2, h3⟩ | ⟨h1, h2, h3⟩ | ⟨h1, h2, h3⟩
    · simp [h1, h2]
    · simp [h1, h2]
    · subst h3; simp [h1, ih]
theorem cb_range : ∀ a b : List UInt8, -1 ≤ Lib.compareBytes a b ∧ Lib.compareBytes a b ≤ 1
  | [], [] => by simp [cb_nn]
  | [], y :: b => by simp [cb_nc]
  | x :: a, [] => by simp [cb_cn]
  | x :: a, y :: b => by
    have ih := cb_range a b
    rw [cb_cc]
    split
    · omega
    · split <;> omega
theorem cb_trans : ∀ a b c : List UInt8, Lib.compareBytes a b ≤ 0 → Lib.compareBytes b c ≤ 0 → Lib.compareBytes a c ≤ 0
  | [], _, [], _, _ => by simp [cb_nn]
  | [], _, z :: c, _, _ => by simp [cb_nc]
  | x :: a, [], _, h, _ => by rw [cb_cn] at h; omega
  | x :: a, y :: b, [], _, h => by rw [cb_cn] at h; omega
  | x :: a, y :: b, z :: c, h1, h2 => by
    have ih := cb_trans a b c
    rw [cb_cc] at *
    rcases u8_tri x y with ⟨p1, p2, p3⟩ | ⟨p1, p2, p3⟩ | ⟨p1, p2, p3⟩
    · rcases u8_tri y z with ⟨q1, q2, q3⟩ | ⟨q1, q2, q3⟩ | ⟨q1, q2, q3⟩
      · rw [if_pos (by rw [UInt8.lt_iff_toNat_lt] at *; omega)]; omega
      · rw [if_neg q1, if_pos q2] at h2; omega
      · subst q3; rw [if_pos p1]; omega
    · rw [if_neg p1, if_pos p2] at h1; omega
    · subst p3
      rw [if_neg p1, if_neg p1] at h1
      rcases u8_tri x z with ⟨q1, q2, q3⟩ | ⟨q1, q2, q3⟩ | ⟨q1, q2, q3⟩
      · rw [if_pos q1]; omega
      · rw [if_neg q1, if_pos q2] at h2; omega
      · subst q3
        rw [if_neg p1, if_neg p1] at h2 ⊢
        exact ih h1 h2
theorem str_toList (zs : List Nat) : (str zs).toList = zs.map UInt8.ofNat := by rw [Go.ByteArray.toList_eq]; simp [str]
theorem str_less (a b : List Nat) : Op.bytesLess (str a).toList (str b).toList = decide (cmpN a b < 0) := by rw [str_toList, str_toList, cb_less]; rfl
theorem str_eq (a b : List Nat) : ((str a).toList == (str b).toList) = decide (cmpN a b = 0) := by
  rw [str_toList, str_toList, Bool.eq_iff_iff, beq_iff_eq, decide_eq_true_iff]
  exact (cb_eq _ _).symm
theorem cmpN_zero (a b : List Nat) (ha : ∀ c ∈ a, c < 256) (hb : ∀ c ∈ b, c < 256) : cmpN a b = 0 ↔ a = b := by
  unfold cmpN
  rw [cb_eq]
  constructor
  · intro h; exact str_inj a b ha hb (by unfold str; rw [h])
  · rintro rfl; rfl
theorem cmpN_neg (a b : List Nat) : cmpN b a = - cmpN a b := cb_neg _ _
theorem cmpN_range (a b : List Nat) : -1 ≤ cmpN a b ∧ cmpN a b ≤ 1 := cb_range _ _
theorem cmpN_trans (a b c : List Nat) : cmpN a b ≤ 0 → cmpN b c ≤ 0 → cmpN a c ≤ 0 := cb_trans _ _ _
end Go.Proofs.YthkaadcgiplolaaDoor
