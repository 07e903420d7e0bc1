/- Plain facts on how many are the same. -/
import Derived.Test.YteepkefnighjoaaOctC
namespace Go.Proofs.Yteepkefnighjoaa
open Go.RowKit
theorem same_char : ∀ (a b : List Nat) (k : Nat), k ≤ a.length → k ≤ b.length → (∀ j, j < k → a.getD j 0 = b.getD j 0) → (k = a.length ∨ k = b.length ∨ a.getD k 0 ≠ b.getD k 0) → same a b = k
  | [], b, k, h1, _, _, _ => by simp at h1; subst h1; simp [same]
  | x :: a, [], k, _, h2, _, _ => by simp at h2; subst h2; simp [same]
  | x :: a, y :: b, k, h1, h2, h3, h4 => by
    cases k with
    | zero =>
      simp at h4
      simp [same, h4]
    | succ k =>
      have e : x = y := by simpa using h3 0 (by omega)
      subst e
      simp only [same, if_true]
      rw [same_char a b k (by simpa using h1) (by simpa using h2) (fun j hj => by simpa using h3 (j + 1) (by omega)) (by simpa using h4)]
theorem same_self (a : List Nat) : same a a = a.length := same_char a a _ (Nat.le_refl _) (Nat.le_refl _) (fun _ _ => rfl) (.inl rfl)
theorem getD_take (a : List Nat) (c j : Nat) (h : j < c) : (a.take c).getD j 0 = a.getD j 0 := by simp [List.getD_eq_getElem?_getD, h]
theorem getD_set_ne (a : List Nat) (k j q : Nat) (h : j ≠ k) : (a.set k q).getD j 0 = a.getD j 0 := by simp [List.getD_eq_getElem?_getD, List.getElem?_set_ne (Ne.symm h)]
theorem getD_set_eq (a : List Nat) (k q : Nat) (h : k < a.length) : (a.set k q).getD k 0 = q := by simp [List.getD_eq_getElem?_getD, h]
theorem same_take (a : List Nat) (c : Nat) (h : c ≤ a.length) : same a (a.take c) = c :=
  same_char _ _ c h (by simp; omega) (fun j hj => (getD_take a c j hj).symm) (.inr (.inl (by simp; omega)))
theorem same_set (a : List Nat) (k q : Nat) (h : k < a.length) (hq : q ≠ a.getD k 0) : same a (a.set k q) = k :=
  same_char _ _ k (by omega) (by simp; omega) (fun j hj => (getD_set_ne a k j q (by omega)).symm) (.inr (.inr (by rw [getD_set_eq a k q h]; exact Ne.symm hq)))
theorem same_set' (a : List Nat) (k q : Nat) (h : k < a.length) (hq : q ≠ a.getD k 0) : same (a.set k q) a = k :=
  same_char _ _ k (by simp; omega) (by omega) (fun j hj => getD_set_ne a k j q (by omega)) (.inr (.inr (by rw [getD_set_eq a k q h]; exact hq)))
theorem same_set_take (a : List Nat) (k q c : Nat) (h : k < a.length) (hc : c ≤ a.length) (hq : q ≠ a.getD k 0) : same ((a.set k q).take c) a = min c k := by
  by_cases hck : c ≤ k
  · rw [Nat.min_eq_left hck]
    exact same_char _ _ c (by simp; omega) hc (fun j hj => by rw [getD_take _ c j hj, getD_set_ne a k j q (by omega)]) (.inl (by simp; omega))
  · rw [Nat.min_eq_right (by omega)]
    exact same_char _ _ k (by simp; omega) (by omega) (fun j hj => by rw [getD_take _ c j (by omega), getD_set_ne a k j q (by omega)]) (.inr (.inr (by rw [getD_take _ c k (by omega), getD_set_eq a k q h]; exact hq)))

theorem xor_or_ne (y x : Nat) : y ^^^ (x ||| 1) ≠ y := by
  intro h
  have h2 : y ^^^ (y ^^^ (x ||| 1)) = y ^^^ y := by rw [h]
  rw [← Nat.xor_assoc, Nat.xor_self, Nat.zero_xor] at h2
  have : 1 ≤ x ||| 1 := Nat.right_le_or
  omega
theorem xor_or_lt (y x : Nat) (hy : y < 256) (hx : x < 256) : y ^^^ (x ||| 1) < 256 :=
  Nat.xor_lt_two_pow (n := 8) hy (Nat.or_lt_two_pow (n := 8) hx (by decide))
theorem bits_turn (y x : Nat) (hy : y < 256) (hx : x < 256) : bits .xor .u8 (y : Int) (bits .or .u8 (x : Int) 1) = ((y ^^^ (x ||| 1) : Nat) : Int) := by
  have h1 : bits .or .u8 (x : Int) 1 = ((x ||| 1 : Nat) : Int) := u8_or_nat x 1 hx (by decide)
  rw [h1, u8_xor_nat y (x ||| 1) hy (Nat.or_lt_two_pow (n := 8) hx (by decide))]

theorem Rd.cut {w : World} {a : Option Addr} {len cap : Nat} {k : IntKind} {bs : List Nat} (h : Rd w (.slice a len cap) (nus k bs)) (c : Nat) (hc : c ≤ len) : Rd w (.slice a c cap) (nus k (bs.take c)) := by
  obtain ⟨a', cap', e, h1, h2, h3⟩ := h
  simp only [Value.slice.injEq] at e
  obtain ⟨rfl, rfl, rfl⟩ := e
  rw [nus_length] at h1 h3 hc
  have hl : (nus k (bs.take c)).length = c := by rw [nus_length]; simp; omega
  refine ⟨_, _, by rw [hl], by rw [hl]; omega, h2, ?_⟩
  rcases h3 with h3 | ⟨b, off, rfl, hb, hcc⟩
  · obtain rfl := (nus_nil _ _).1 h3
    exact .inl (by simp [nus])
  · refine .inr ⟨b, off, rfl, hb, fun i hi => ?_⟩
    rw [hl] at hi
    rw [hcc i (by omega)]
    simp [nus, hi]
theorem Rd.drew {w : World} {v : Value} {xs : List Value} (h : Rd w v xs) (n : Nat) : Rd (w.drewN n) v xs := h
end Go.Proofs.Yteepkefnighjoaa
