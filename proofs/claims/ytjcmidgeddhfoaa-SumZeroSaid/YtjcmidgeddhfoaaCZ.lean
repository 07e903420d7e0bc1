/- Plain facts: a row with its checksum behind; words that change places. -/
import Derived.Test.YtjcmidgeddhfoaaCY
namespace Go.Proofs.Ytjcmidgeddhfoaa
open Go.RowKit

theorem zero_ck (E : List Nat) (h : E.length % 2 = 0) : ck (E ++ [ck E / 256, ck E % 256]) = 0 := by
  have h1 := ck_mod E
  have h2 := ck_le E
  have h3 := gr_zero (wsp 0 E)
  have h4 := gr_le (wsp 0 E)
  have e : wsp 0 (E ++ [ck E / 256, ck E % 256]) = wsp 0 E + ck E := by
    rw [wsp_append, wsp_eq _ (0 + E.length) 0 (by omega)]
    simp only [wsp, wt_even 0 rfl, wt_odd (0 + 1) rfl]
    omega
  have h5 : wsp 0 E = 0 → ck E = 65535 := fun h0 => by unfold ck; rw [h3.2 h0]
  show 65535 - gr (wsp 0 (E ++ [ck E / 256, ck E % 256])) = 0
  rw [e]
  generalize ck E = s at *
  generalize wsp 0 E = v at *
  have h6 : v + s ≠ 0 := by
    intro h0
    have := h5 (by omega)
    omega
  unfold gr
  rw [if_neg h6]
  omega
theorem getD_ne (l : List Nat) (i j z : Nat) (h : i ≠ j) : (l.set i z).getD j 0 = l.getD j 0 := by simp [List.getD_eq_getElem?_getD, List.getElem?_set_ne h]
theorem getD_eq (l : List Nat) (i z : Nat) (h : i < l.length) : (l.set i z).getD i 0 = z := by simp [List.getD_eq_getElem?_getD, h]
/-- Two words changed for one another. -/
def swp (E : List Nat) (x y : Nat) : List Nat := (((E.set x (E.getD y 0)).set (x + 1) (E.getD (y + 1) 0)).set y (E.getD x 0)).set (y + 1) (E.getD (x + 1) 0)
theorem swp_length (E : List Nat) (x y : Nat) : (swp E x y).length = E.length := by simp [swp]
theorem swp_ck (E : List Nat) (x y : Nat) (hx : x % 2 = 0) (hy : y % 2 = 0) (hxl : x + 1 < E.length) (hyl : y + 1 < E.length) : ck (swp E x y) = ck E := by
  have s1 := wsp_set E 0 x (E.getD y 0) (by omega)
  have s2 := wsp_set (E.set x (E.getD y 0)) 0 (x + 1) (E.getD (y + 1) 0) (by simp; omega)
  have s3 := wsp_set ((E.set x (E.getD y 0)).set (x + 1) (E.getD (y + 1) 0)) 0 y (E.getD x 0) (by simp; omega)
  have s4 := wsp_set (((E.set x (E.getD y 0)).set (x + 1) (E.getD (y + 1) 0)).set y (E.getD x 0)) 0 (y + 1) (E.getD (x + 1) 0) (by simp; omega)
  have d2 : (E.set x (E.getD y 0)).getD (x + 1) 0 = E.getD (x + 1) 0 := getD_ne _ _ _ _ (by omega)
  have d3 : ((E.set x (E.getD y 0)).set (x + 1) (E.getD (y + 1) 0)).getD y 0 = E.getD y 0 := by
    rw [getD_ne _ _ _ _ (by omega)]
    by_cases h : x = y
    · subst h; exact getD_eq _ _ _ (by omega)
    · exact getD_ne _ _ _ _ h
  have d4 : (((E.set x (E.getD y 0)).set (x + 1) (E.getD (y + 1) 0)).set y (E.getD x 0)).getD (y + 1) 0 = E.getD (y + 1) 0 := by
    rw [getD_ne _ _ _ _ (by omega)]
    by_cases h : x = y
    · subst h; exact getD_eq _ _ _ (by simp; omega)
    · rw [getD_ne _ _ _ _ (by omega), getD_ne _ _ _ _ (by omega)]
  rw [d2] at s2
  rw [d3] at s3
  rw [d4] at s4
  rw [wt_even _ (show (0 + x) % 2 = 0 by omega)] at s1
  rw [wt_odd _ (show (0 + (x + 1)) % 2 = 1 by omega)] at s2
  rw [wt_even _ (show (0 + y) % 2 = 0 by omega)] at s3
  rw [wt_odd _ (show (0 + (y + 1)) % 2 = 1 by omega)] at s4
  unfold ck swp
  have : wsp 0 ((((E.set x (E.getD y 0)).set (x + 1) (E.getD (y + 1) 0)).set y (E.getD x 0)).set (y + 1) (E.getD (x + 1) 0)) = wsp 0 E := by omega
  rw [this]
theorem set_lt (B : List Nat) (i z : Nat) (hB : ∀ c ∈ B, c < 256) (hz : z < 256) : ∀ c ∈ B.set i z, c < 256 := by
  intro c hc
  rcases List.mem_or_eq_of_mem_set hc with h | h
  · exact hB c h
  · omega
theorem swp_lt (E : List Nat) (x y : Nat) (h : ∀ c ∈ E, c < 256) : ∀ c ∈ swp E x y, c < 256 :=
  set_lt _ _ _ (set_lt _ _ _ (set_lt _ _ _ (set_lt _ _ _ h (getD_lt E h _)) (getD_lt E h _)) (getD_lt E h _)) (getD_lt E h _)
theorem mem_app2 {A : List Nat} (hA : ∀ c ∈ A, c < 256) {p q : Nat} (hp : p < 256) (hq : q < 256) : ∀ c ∈ A ++ [p, q], c < 256 := by
  intro c hc
  rcases List.mem_append.1 hc with h | h
  · exact hA c h
  · simp at h; omega
theorem mem_snoc0 (B : List Nat) (hB : ∀ c ∈ B, c < 256) : ∀ c ∈ B ++ [0], c < 256 := by
  intro c hc
  rcases List.mem_append.1 hc with h | h
  · exact hB c h
  · simp at h; omega
end Go.Proofs.Ytjcmidgeddhfoaa
