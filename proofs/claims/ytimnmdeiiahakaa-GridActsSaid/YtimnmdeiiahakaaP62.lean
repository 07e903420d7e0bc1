/- A grid's cells: what stands at each place, as a stage's row has it; the grid's state as one fact. Nothing of the program but the cells. -/
import Derived.Test.YtimnmdeiiahakaaP61
import Derived.Test.YtimnmdeiiahakaaBlk
import Derived.Test.YtimnmdeiiahakaaPs
import Derived.Test.YtimnmdeiiahakaaSt
namespace Go.Proofs.Ytimnmdeiiahakaa
open Go.RowKit Go.Lib

/-- A stage's row: n places' cells from a on. -/
def rowC {α : Type} (enc : Option α → List Value) (c : Nat → Option α) (a n : Nat) : List Value := (List.range' a n).flatMap fun k => enc (c k)
theorem rowC_succ {α : Type} (enc : Option α → List Value) (c : Nat → Option α) (a n : Nat) : rowC enc c a (n + 1) = enc (c a) ++ rowC enc c (a + 1) n := by
  unfold rowC; rw [List.range'_succ, List.flatMap_cons]
theorem rowC_len {α : Type} (enc : Option α → List Value) (m : Nat) (he : ∀ o, (enc o).length = m) (c : Nat → Option α) (a n : Nat) : (rowC enc c a n).length = n * m := by
  induction n generalizing a with
  | zero => simp [rowC]
  | succ n ih => rw [rowC_succ, List.length_append, he, ih, Nat.succ_mul, Nat.add_comm]
theorem rowC_get {α : Type} (enc : Option α → List Value) (m : Nat) (he : ∀ o, (enc o).length = m) (c : Nat → Option α) (a n i j : Nat) (hi : i < n) (hj : j < m) : (rowC enc c a n)[i * m + j]? = (enc (c (a + i)))[j]? := by
  induction n generalizing a i with
  | zero => omega
  | succ n ih =>
    rw [rowC_succ]
    cases i with
    | zero => rw [Nat.zero_mul, Nat.zero_add, List.getElem?_append_left (by rw [he]; exact hj), Nat.add_zero]
    | succ i =>
      rw [List.getElem?_append_right (by rw [he, Nat.succ_mul]; omega), he, show (i + 1) * m + j - m = i * m + j by rw [Nat.succ_mul]; omega, ih (a + 1) i (by omega), show a + 1 + i = a + (i + 1) by omega]
theorem rowC_congr {α : Type} (enc : Option α → List Value) (c d : Nat → Option α) (a n : Nat) (h : ∀ j, a ≤ j → j < a + n → c j = d j) : rowC enc c a n = rowC enc d a n := by
  induction n generalizing a with
  | zero => rfl
  | succ n ih => rw [rowC_succ, rowC_succ, h a (Nat.le_refl _) (by omega), ih (a + 1) fun j h1 h2 => h j (by omega) (by omega)]
theorem div_of_in (m j i : Nat) (h1 : i * m ≤ j) (h2 : j < i * m + m) : j / m = i ∧ j % m = j - i * m := by
  have hm : 0 < m := by omega
  have e : j = m * i + (j - i * m) := by rw [Nat.mul_comm]; omega
  constructor
  · rw [e, Nat.mul_add_div hm, Nat.div_eq_of_lt (by omega), Nat.add_zero]
  · rw [e, Nat.mul_add_mod, Nat.mod_eq_of_lt (by omega)]; omega
theorem rowC_put {α : Type} (enc : Option α → List Value) (m : Nat) (he : ∀ o, (enc o).length = m) (hm : 0 < m) (c : Nat → Option α) (a n i : Nat) (hi : i < n) (v : Option α) : setL (rowC enc c a n).toArray (i * m) (enc v) = (rowC enc (putC c (a + i) v) a n).toArray := by
  apply Array.ext_getElem?
  intro j
  rw [setL_get]
  have hl := rowC_len enc m he c a n
  have hl2 := rowC_len enc m he (putC c (a + i) v) a n
  have hle : (i + 1) * m ≤ n * m := Nat.mul_le_mul_right _ hi
  rw [Nat.succ_mul] at hle
  simp only [List.size_toArray, List.getElem?_toArray]
  rw [hl, he]
  by_cases hj : j < n * m
  · have hq : j / m < n := Nat.div_lt_of_lt_mul (by rw [Nat.mul_comm]; exact hj)
    have hr : j % m < m := Nat.mod_lt _ hm
    have ej := Nat.div_add_mod' j m
    have g1 := rowC_get enc m he c a n (j / m) (j % m) hq hr
    have g2 := rowC_get enc m he (putC c (a + i) v) a n (j / m) (j % m) hq hr
    rw [ej] at g1 g2
    rw [g1, g2]
    by_cases h : i * m ≤ j ∧ j < i * m + m
    · obtain ⟨q1, q2⟩ := div_of_in m j i h.1 h.2
      rw [if_pos ⟨h.1, h.2, hj⟩, q1, q2, putC_at]
    · rw [if_neg (by omega), putC_off]
      intro e
      have hi2 : j / m = i := by omega
      rw [hi2] at ej
      omega
  · rw [if_neg (by omega), List.getElem?_eq_none (by omega), List.getElem?_eq_none (by omega)]
theorem rowC_far {α : Type} (enc : Option α → List Value) (c : Nat → Option α) (a n k : Nat) (h : k < a ∨ a + n ≤ k) (v : Option α) : rowC enc (putC c k v) a n = rowC enc c a n :=
  rowC_congr enc _ _ a n fun j h1 h2 => putC_off c k j v (by omega)
theorem rowC_none {α : Type} (enc : Option α → List Value) (a n : Nat) : rowC enc (fun _ => (none : Option α)) a n = (List.replicate n (enc none)).flatten := by
  induction n generalizing a with
  | zero => rfl
  | succ n ih => rw [rowC_succ, ih, List.replicate_succ, List.flatten_cons]
/-- The stages' headers. -/
def hdr (B sz st : Nat) : List Value := (List.range st).map fun s => Value.slice (some ⟨B + 2 + s, 0, none⟩) sz sz
theorem hdr_get (B sz st s : Nat) (h : s < st) : (hdr B sz st).toArray[s]? = some (Value.slice (some ⟨B + 2 + s, 0, none⟩) sz sz) := by
  unfold hdr; simp [List.getElem?_range h]
theorem hdr_len (B sz st : Nat) : (hdr B sz st).length = st := by unfold hdr; simp

/-- The grid's own cells. -/
def grC (B st n : Nat) : Array Value := #[.slice (some ⟨B, 0, none⟩) st st, .int .i64 (n : Int)]
theorem grC_get (B st n : Nat) : (grC B st n)[0]? = some (.slice (some ⟨B, 0, none⟩) st st) ∧ (grC B st n)[1]? = some (.int .i64 (n : Int)) := ⟨rfl, rfl⟩
theorem grC_set (B st n k : Nat) : (grC B st n).setIfInBounds 1 (.int .i64 (k : Int)) = grC B st k := rfl

/-- A grid of st stages of sz places, with just c in it. -/
structure GS {α : Type} (tG tR tC : TypeId) (enc : Option α → List Value) (B st sz : Nat) (c : Nat → Option α) (W : World) : Prop where
  G : Blk W (B + 1) tG (grC B st (itF c 0 (st * sz)).length)
  R : Blk W B tR (hdr B sz st).toArray
  C : ∀ s, s < st → Blk W (B + 2 + s) tC (rowC enc c (s * sz) sz).toArray
  s1 : 1 ≤ st
  s2 : st ≤ 4
  z1 : 1 ≤ sz
  z2 : sz ≤ 1024

/-- All is as it was but n blocks from B on, and what is new. -/
structure Apart (B n : Nat) (w w' : World) : Prop where
  os : w'.os = w.os
  tape : w'.tape = w.tape
  output : w'.output = w.output
  size : w.heap.size ≤ w'.heap.size
  block : ∀ k, k < w.heap.size → k < B ∨ B + n ≤ k → w'.heap[k]? = w.heap[k]?
section
variable {B n : Nat} {w w' w'' : World}
theorem Apart.trans (h : Apart B n w w') (k : Apart B n w' w'') : Apart B n w w'' :=
  ⟨k.os.trans h.os, k.tape.trans h.tape, k.output.trans h.output, Nat.le_trans h.size k.size, fun i hi hb => (k.block i (Nat.lt_of_lt_of_le hi h.size) hb).trans (h.block i hi hb)⟩
theorem Apart.of_below (h : Below w.heap.size w w') : Apart B n w w' := ⟨h.os, h.tape, h.output, h.size, fun k hk _ => h.block k hk⟩
theorem Apart.of_grown {g : Nat} (h : w.grownBy w' (some g)) (h1 : B ≤ g) (h2 : g < B + n) : Apart B n w w' :=
  ⟨h.os, h.tape, h.output, h.size, fun k hk hb => h.block k hk (fun e => by cases e; omega)⟩
theorem Apart.below (h : Apart B n w w') {b : Nat} (hb : b ≤ B) (hs : b ≤ w.heap.size) : Below b w w' :=
  ⟨h.os, h.tape, h.output, h.size, fun k hk => h.block k (by omega) (.inl (by omega))⟩
theorem Apart.blk (h : Apart B n w w') {g : Nat} {t : TypeId} {cs : Array Value} (hb : Blk w g t cs) (hg : g < B ∨ B + n ≤ g) : Blk w' g t cs := (h.block g hb.lt hg).trans hb
end
section
variable {α : Type} {tG tR tC : TypeId} {enc : Option α → List Value} {B st sz : Nat} {c : Nat → Option α} {W W' : World}
theorem GS.lt (h : GS tG tR tC enc B st sz c W) : B + 2 + st ≤ W.heap.size := by
  have := (h.C (st - 1) (by have := h.s1; omega)).lt
  have := h.s1
  omega
theorem GS.belowB {b : Nat} (h : GS tG tR tC enc B st sz c W) (hb : Below b W W') (hl : B + 2 + st ≤ b) : GS tG tR tC enc B st sz c W' :=
  ⟨h.G.below hb (by have := h.s1; omega), h.R.below hb (by omega), fun s hs => (h.C s hs).below hb (by omega), h.s1, h.s2, h.z1, h.z2⟩
theorem GS.below (h : GS tG tR tC enc B st sz c W) (hb : Below W.heap.size W W') : GS tG tR tC enc B st sz c W' := h.belowB hb h.lt
theorem GS.kept (h : GS tG tR tC enc B st sz c W) (hk : ∀ k, B ≤ k → k < B + 2 + st → W'.heap[k]? = W.heap[k]?) : GS tG tR tC enc B st sz c W' :=
  ⟨(hk _ (by omega) (by have := h.s1; omega)).trans h.G, (hk _ (by omega) (by omega)).trans h.R, fun s hs => (hk _ (by omega) (by omega)).trans (h.C s hs), h.s1, h.s2, h.z1, h.z2⟩
theorem GS.grown {g : Nat} (h : GS tG tR tC enc B st sz c W) (hb : W.grownBy W' (some g)) (hg : g < B ∨ B + 2 + st ≤ g) : GS tG tR tC enc B st sz c W' :=
  h.kept fun k h1 h2 => hb.block k (by have := h.lt; omega) (fun e => by cases e; omega)
end
end Go.Proofs.Ytimnmdeiiahakaa
