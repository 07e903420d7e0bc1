/- Plain facts on sums that go round, and on checksums that are changed. Nothing of the program. -/
import Derived.Test.YtjcmidgeddhfoaaNums
namespace Go.Proofs.Ytjcmidgeddhfoaa
open Go.RowKit

/-- What a number comes to, where what is beyond 16 binary digits is added to the low ones until none is. -/
def gr (u : Nat) : Nat := if u = 0 then 0 else (u - 1) % 65535 + 1
theorem gr_small (u : Nat) (h : u ≤ 65535) : gr u = u := by unfold gr; split <;> omega
theorem gr_le (u : Nat) : gr u ≤ 65535 := by unfold gr; split <;> omega
theorem gr_step (u : Nat) (h : 65535 < u) : gr (u / 65536 + u % 65536) = gr u := by
  unfold gr
  rw [if_neg (by omega), if_neg (by omega)]
  omega
theorem gr_mod (u : Nat) : gr u % 65535 = u % 65535 := by unfold gr; split <;> omega
theorem gr_zero (u : Nat) : gr u = 0 ↔ u = 0 := by unfold gr; split <;> omega
theorem gr_eq (a b : Nat) (h : a % 65535 = b % 65535) (h0 : a = 0 ↔ b = 0) : gr a = gr b := by
  unfold gr
  by_cases ha : a = 0
  · have hb := h0.1 ha
    rw [if_pos ha, if_pos hb]
  · have hb : ¬ b = 0 := fun e => ha (h0.2 e)
    rw [if_neg ha, if_neg hb]
    omega
theorem gr_add (a b : Nat) : gr (gr a + b) = gr (a + b) := by
  have h1 := gr_mod a
  have h2 := gr_zero a
  exact gr_eq _ _ (by omega) (by omega)
theorem gr_lt (u v : Nat) (h : gr v = gr u) (hv : v ≤ 65535) : v = gr u := by rw [← h, gr_small v hv]

/-- What a place weighs: the high byte of a word, or the low one. -/
def wt (p : Nat) : Nat := if p % 2 = 0 then 256 else 1
/-- The sum of a row's words, its first byte at place p. -/
def wsp : Nat → List Nat → Nat
  | _, [] => 0
  | p, x :: r => x * wt p + wsp (p + 1) r
theorem wt_eq (p q : Nat) (h : p % 2 = q % 2) : wt p = wt q := by unfold wt; rw [h]
theorem wt_even (p : Nat) (h : p % 2 = 0) : wt p = 256 := by unfold wt; rw [if_pos h]
theorem wt_odd (p : Nat) (h : p % 2 = 1) : wt p = 1 := by unfold wt; rw [if_neg (by omega)]
theorem wsp_eq : ∀ (l : List Nat) (p q : Nat), p % 2 = q % 2 → wsp p l = wsp q l
  | [], _, _, _ => rfl
  | x :: r, p, q, h => by
    have := wsp_eq r (p + 1) (q + 1) (by omega)
    simp only [wsp]
    rw [wt_eq p q h, this]
theorem wsp_append : ∀ (a b : List Nat) (p : Nat), wsp p (a ++ b) = wsp p a + wsp (p + a.length) b
  | [], b, p => by simp [wsp]
  | x :: r, b, p => by
    have := wsp_append r b (p + 1)
    simp only [wsp, List.cons_append, List.length_cons]
    rw [this, show p + 1 + r.length = p + (r.length + 1) from by omega, Nat.add_assoc]
theorem wsp_zeros : ∀ (n p : Nat), wsp p (List.replicate n 0) = 0
  | 0, _ => rfl
  | n + 1, p => by simp only [List.replicate_succ, wsp, wsp_zeros n (p + 1), Nat.zero_mul]
theorem wsp_le : ∀ (l : List Nat) (p : Nat), (∀ c ∈ l, c < 256) → wsp p l ≤ 65280 * l.length
  | [], _, _ => by simp [wsp]
  | x :: r, p, h => by
    have h1 := wsp_le r (p + 1) (fun c hc => h c (by simp [hc]))
    have h2 := h x (by simp)
    simp only [wsp, List.length_cons]
    rcases (show wt p = 256 ∨ wt p = 1 from by unfold wt; split <;> simp) with e | e <;> rw [e] <;> omega
theorem wsp_set : ∀ (l : List Nat) (p i v : Nat), i < l.length → wsp p (l.set i v) + l.getD i 0 * wt (p + i) = wsp p l + v * wt (p + i)
  | [], _, _, _, h => by simp at h
  | x :: r, p, 0, v, _ => by simp only [List.set_cons_zero, wsp, List.getD_cons_zero, Nat.add_zero]; omega
  | x :: r, p, i + 1, v, h => by
    have := wsp_set r (p + 1) i v (by simpa using h)
    simp only [List.set_cons_succ, wsp, List.getD_cons_succ]
    rw [show p + 1 + i = p + (i + 1) from by omega] at this
    omega

/-- The word behind so many words. -/
def w2 (E : List Nat) (j : Nat) : Nat := E.getD (2 * j) 0 * 256 + E.getD (2 * j + 1) 0
theorem be_two (E : List Nat) (k : Nat) (h : k + 2 ≤ E.length) : be ((E.drop k).take 2) = E.getD k 0 * 256 + E.getD (k + 1) 0 := by
  rw [be_step E k 1 (by omega), be_step E k 0 (by omega)]
  simp [be]
theorem w2_lt (E : List Nat) (j : Nat) (h : ∀ c ∈ E, c < 256) : w2 E j < 65536 := by
  have h1 := getD_lt E h (2 * j)
  have h2 := getD_lt E h (2 * j + 1)
  unfold w2
  omega
theorem take_snoc (E : List Nat) (k : Nat) (h : k < E.length) : E.take (k + 1) = E.take k ++ [E.getD k 0] := by
  rw [List.take_succ_eq_append_getElem h]
  simp [List.getD_eq_getElem?_getD, List.getElem?_eq_getElem h]
theorem wsp_take_one (E : List Nat) (k : Nat) (h : k < E.length) : wsp 0 (E.take (k + 1)) = wsp 0 (E.take k) + E.getD k 0 * wt k := by
  rw [take_snoc E k h, wsp_append]
  simp [wsp, Nat.min_eq_left (Nat.le_of_lt h)]
/-- Word by word. -/
theorem wsp_two (E : List Nat) (j : Nat) (h : 2 * j < E.length) : wsp 0 (E.take (2 * (j + 1))) = wsp 0 (E.take (2 * j)) + w2 E j := by
  have h1 := wsp_take_one E (2 * j) h
  rw [wt_even _ (by omega)] at h1
  unfold w2
  by_cases h2 : 2 * j + 1 < E.length
  · have h3 := wsp_take_one E (2 * j + 1) h2
    rw [wt_odd _ (by omega)] at h3
    rw [show 2 * (j + 1) = 2 * j + 1 + 1 from by omega, h3, h1]
    omega
  · have e : E.getD (2 * j + 1) 0 = 0 := by rw [List.getD_eq_getElem?_getD, List.getElem?_eq_none (by omega)]; rfl
    have e2 : E.take (2 * (j + 1)) = E.take (2 * j + 1) := by rw [List.take_of_length_le (by omega), List.take_of_length_le (by omega)]
    rw [e2, h1, e]
    omega
theorem wsp_take_lt (E : List Nat) (k : Nat) (h : ∀ c ∈ E, c < 256) : wsp 0 (E.take k) ≤ 65280 * E.length := by
  have h1 := wsp_le (E.take k) 0 (fun c hc => h c (List.mem_of_mem_take hc))
  have h2 := List.length_take_le' k E
  omega

/-- A checksum where one word is another one. -/
def upd (old f t : Nat) : Nat := 65535 - gr ((65535 - old) + (65535 - f) + t)
theorem upd_le (old f t : Nat) : upd old f t ≤ 65535 := by unfold upd; omega
theorem upd_mod (old f t : Nat) (ho : old ≤ 65535) (hf : f ≤ 65535) : (upd old f t + t) % 65535 = (old + f) % 65535 := by
  have h1 := gr_mod ((65535 - old) + (65535 - f) + t)
  have h2 := gr_le ((65535 - old) + (65535 - f) + t)
  unfold upd
  omega
/-- A checksum where so many words are others. -/
def chg (old : Nat) (F T : List Nat) : Nat → Nat
  | 0 => old
  | k + 1 => upd (chg old F T k) (w2 F k) (w2 T k)
theorem chg_le (old : Nat) (F T : List Nat) (h : old ≤ 65535) : ∀ k, chg old F T k ≤ 65535
  | 0 => h
  | _ + 1 => upd_le _ _ _
theorem chg_mod (old : Nat) (F T : List Nat) (h : old ≤ 65535) (hF : ∀ c ∈ F, c < 256) : ∀ k, 2 * k ≤ F.length → 2 * k ≤ T.length →
    (chg old F T k + wsp 0 (T.take (2 * k))) % 65535 = (old + wsp 0 (F.take (2 * k))) % 65535
  | 0, _, _ => by simp [chg, wsp]
  | k + 1, h1, h2 => by
    have hi := chg_mod old F T h hF k (by omega) (by omega)
    have hu := upd_mod (chg old F T k) (w2 F k) (w2 T k) (chg_le old F T h k) (by have := w2_lt F k hF; omega)
    rw [wsp_two F k (by omega), wsp_two T k (by omega)]
    simp only [chg]
    omega
/-- A row's checksum. -/
def ck (b : List Nat) : Nat := 65535 - gr (wsp 0 b)
theorem ck_le (b : List Nat) : ck b ≤ 65535 := by unfold ck; omega
theorem ck_mod (b : List Nat) : (ck b + wsp 0 b) % 65535 = 0 := by
  have h1 := gr_mod (wsp 0 b)
  have h2 := gr_le (wsp 0 b)
  unfold ck
  omega

end Go.Proofs.Ytjcmidgeddhfoaa
