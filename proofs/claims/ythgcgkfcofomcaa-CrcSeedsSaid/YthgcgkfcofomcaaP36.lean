/- What the laws of checks ask, in plain numbers. Nothing of the program. -/
import Derived.Test.YthgcgkfcofomcaaP35
namespace Go.Proofs.Ythgcgkfcofomcaa

/-- The four polynomials. -/
def knownC : List Nat := [3988292384, 2197175160, 3945912366, 3582100097]
theorem knownC_hi (i : Nat) (h : i < 4) : 2147483648 ≤ knownC.getD i 0 ∧ knownC.getD i 0 < 4294967296 := by
  have : i = 0 ∨ i = 1 ∨ i = 2 ∨ i = 3 := by omega
  rcases this with rfl | rfl | rfl | rfl <;> decide
/-- A row with one bit alone. -/
def oneBit (n k x : Nat) : List Nat := List.replicate k 0 ++ x :: List.replicate (n - k - 1) 0
theorem oneBit_len (n k x : Nat) (h : k < n) : (oneBit n k x).length = n := by unfold oneBit; simp; omega
theorem zip_zeros : ∀ (a : List Nat), List.zipWith (· ^^^ ·) a (List.replicate a.length 0) = a
  | [] => rfl
  | c :: a => by simp [List.replicate_succ, zip_zeros a]
theorem set_xor : ∀ (c : List Nat) (k x : Nat), k < c.length → c.set k (c.getD k 0 ^^^ x) = List.zipWith (· ^^^ ·) c (oneBit c.length k x)
  | [], k, x, h => by simp at h
  | y :: c, 0, x, h => by simp [oneBit, zip_zeros]
  | y :: c, k + 1, x, h => by
    have ih := set_xor c k x (by simpa using h)
    have e : oneBit (y :: c).length (k + 1) x = 0 :: oneBit c.length k x := by
      unfold oneBit
      rw [List.replicate_succ, List.length_cons, show c.length + 1 - (k + 1) - 1 = c.length - k - 1 by omega]
      rfl
    rw [e, List.set_cons_succ, List.getD_cons_succ, ih]
    simp
theorem regC_zeros (p : Nat) : ∀ n, regC p 0 (List.replicate n 0) = 0
  | 0 => rfl
  | n + 1 => by
    rw [List.replicate_succ]
    show regC p (byB p 0 0) (List.replicate n 0) = 0
    rw [show byB p 0 0 = 0 from by unfold byB; simp [stpN_zero], regC_zeros p n]
theorem regC_append (p r : Nat) (a b : List Nat) : regC p r (a ++ b) = regC p (regC p r a) b := by unfold regC; rw [List.foldl_append]
/-- One bit that is turned turns the check. -/
theorem crcC_bit (p s : Nat) (c : List Nat) (k x : Nat) (hp : 2147483648 ≤ p) (hp2 : p < 4294967296) (hk : k < c.length) (hx : x ≠ 0) (hx2 : x < 256) : crcC p s (c.set k (c.getD k 0 ^^^ x)) ≠ crcC p s c := by
  rw [set_xor c k x hk]
  unfold crcC
  intro e
  have e2 := congrArg (· ^^^ ones) e
  simp only [xor_back] at e2
  have q := regC_xor p c (oneBit c.length k x) (s ^^^ ones) 0 (oneBit_len _ _ _ hk).symm
  rw [Nat.xor_zero] at q
  rw [q] at e2
  have q2 : regC p 0 (oneBit c.length k x) = 0 := by
    have := congrArg (regC p (s ^^^ ones) c ^^^ ·) e2
    simp only [← Nat.xor_assoc, Nat.xor_self, Nat.zero_xor] at this
    exact this
  unfold oneBit at q2
  rw [regC_append, regC_zeros] at q2
  have q3 : regC p (byB p 0 x) (List.replicate (c.length - k - 1) 0) = 0 := q2
  refine regC_ne p hp hp2 _ _ (byB_lt p 0 x hp2 (by decide) hx2) ?_ q3
  unfold byB
  rw [Nat.zero_xor]
  exact stpN_ne p hp hp2 8 x (by omega) hx
/-- Exclusive ors. -/
theorem crcC_linear (p s : Nat) (a b : List Nat) (h : a.length = b.length) : crcC p s a ^^^ crcC p s b ^^^ crcC p s (List.replicate a.length 0) = crcC p s (List.zipWith (· ^^^ ·) a b) := by
  have q1 := regC_xor p a b (s ^^^ ones) (s ^^^ ones) h
  have q2 := regC_xor p (List.zipWith (· ^^^ ·) a b) (List.replicate a.length 0) 0 (s ^^^ ones) (by simp [h])
  rw [Nat.xor_self] at q1
  rw [Nat.zero_xor, show List.zipWith (· ^^^ ·) (List.zipWith (· ^^^ ·) a b) (List.replicate a.length 0) = List.zipWith (· ^^^ ·) a b from by
    have := zip_zeros (List.zipWith (· ^^^ ·) a b)
    rw [List.length_zipWith, ← h, Nat.min_self] at this
    exact this] at q2
  unfold crcC
  rw [q2, q1]
  generalize regC p (s ^^^ ones) a = x
  generalize regC p (s ^^^ ones) b = y
  generalize regC p (s ^^^ ones) (List.replicate a.length 0) = z
  apply Nat.eq_of_testBit_eq
  intro j
  simp only [Nat.testBit_xor]
  cases x.testBit j <;> cases y.testBit j <;> cases z.testBit j <;> cases ones.testBit j <;> rfl
/-- What two seeds differ by. -/
theorem crcC_seeds (p s t : Nat) (a : List Nat) : crcC p s a ^^^ crcC p t a = regC p (s ^^^ t) (List.replicate a.length 0) := by
  have q := regC_xor p a a (s ^^^ ones) (t ^^^ ones) rfl
  have e : List.zipWith (· ^^^ ·) a a = List.replicate a.length 0 := by
    clear q
    induction a with
    | nil => rfl
    | cons c a ih => rw [List.zipWith_cons_cons, ih, Nat.xor_self, List.length_cons, List.replicate_succ]
  have e2 : s ^^^ ones ^^^ (t ^^^ ones) = s ^^^ t := by
    apply Nat.eq_of_testBit_eq
    intro j
    simp only [Nat.testBit_xor]
    cases s.testBit j <;> cases t.testBit j <;> cases ones.testBit j <;> rfl
  rw [e, e2] at q
  rw [q]
  unfold crcC
  generalize regC p (s ^^^ ones) a = x
  generalize regC p (t ^^^ ones) a = y
  apply Nat.eq_of_testBit_eq
  intro j
  simp only [Nat.testBit_xor]
  cases x.testBit j <;> cases y.testBit j <;> cases ones.testBit j <;> rfl
theorem crcC_same (p s t : Nat) (a : List Nat) (hp : 2147483648 ≤ p) (hp2 : p < 4294967296) (hs : s < 4294967296) (ht : t < 4294967296) : crcC p s a = crcC p t a ↔ s = t := by
  constructor
  · intro h
    have q := crcC_seeds p s t a
    rw [h, Nat.xor_self] at q
    by_cases e : s ^^^ t = 0
    · have := congrArg (· ^^^ t) e
      simp only [xor_back, Nat.zero_xor] at this
      exact this
    · exact absurd q.symm (regC_ne p hp hp2 a.length _ (Nat.xor_lt_two_pow (n := 32) hs ht) e)
  · rintro rfl; rfl
/-- A table's entry is the exclusive or of those of its bits. -/
def tabSum (p k : Nat) : Nat → Nat
  | 0 => 0
  | i + 1 => if k / 2 ^ i % 2 = 1 then tabSum p k i ^^^ tabC p (2 ^ i) else tabSum p k i
theorem mod_next (k i : Nat) : k % 2 ^ (i + 1) = (k % 2 ^ i) ^^^ (2 ^ i * (k / 2 ^ i % 2)) := by
  apply Nat.eq_of_testBit_eq
  intro j
  rw [Nat.testBit_xor, Nat.testBit_mod_two_pow, Nat.testBit_mod_two_pow, Nat.testBit_two_pow_mul]
  by_cases h1 : j < i
  · simp [h1, show j < i + 1 by omega, show ¬ i ≤ j by omega]
  · by_cases h2 : j = i
    · subst h2
      simp only [Nat.lt_succ_self, decide_true, Bool.true_and, Nat.lt_irrefl, decide_false, Bool.false_and, Bool.false_xor, Nat.le_refl, Nat.sub_self, Nat.testBit_zero, Nat.mod_mod]
      rw [Nat.testBit_eq_decide_div_mod_eq]
    · have h3 : ¬ j < i + 1 := by omega
      have h4 : i ≤ j := by omega
      have h5 : (k / 2 ^ i % 2).testBit (j - i) = false := Nat.testBit_lt_two_pow (Nat.lt_of_lt_of_le (Nat.mod_lt _ (by decide)) (by
        have : 2 ^ 1 ≤ 2 ^ (j - i) := Nat.pow_le_pow_right (by decide) (by omega)
        simpa using this))
      simp [h1, h3, h4, h5]
theorem tabC_zero (p : Nat) : tabC p 0 = 0 := stpN_zero p 8
theorem tabSum_eq (p k : Nat) : ∀ i, tabSum p k i = tabC p (k % 2 ^ i)
  | 0 => by simp [tabSum, Nat.mod_one, tabC_zero]
  | i + 1 => by
    unfold tabSum
    rw [tabSum_eq p k i, mod_next]
    have h : k / 2 ^ i % 2 = 0 ∨ k / 2 ^ i % 2 = 1 := by omega
    rcases h with h | h
    · rw [if_neg (by omega), h, Nat.mul_zero, Nat.xor_zero]
    · rw [if_pos h, h, Nat.mul_one]
      unfold tabC
      rw [stpN_xor]
end Go.Proofs.Ythgcgkfcofomcaa
