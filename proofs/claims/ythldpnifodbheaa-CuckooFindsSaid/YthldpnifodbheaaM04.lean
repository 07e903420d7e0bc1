/- Texts that the walks of this seat lean on, put together. -/
import Derived.WalkKit
import Derived.Lib.Hide
import Derived.Test.YthldpnifodbheaaTk
import Derived.Test.YthldpnifodbheaaTl
namespace Go.Proofs.Ythldpnifodbheaa
open Go.RowKit
set_option maxRecDepth 100000 in
theorem getD_lt (l : List Nat) (h : ∀ c ∈ l, c < 256) (i : Nat) : l.getD i 0 < 256 := by
  rw [List.getD_eq_getElem?_getD]
  cases hi : l[i]? with
  | none => simp
  | some c => simpa using h c (List.mem_of_getElem? hi)
set_option maxRecDepth 100000 in
theorem ret_int {k : IntKind} {a b : Int} (h : a = b) : Ending.returned (.int k a) = .returned (.int k b) := by rw [h]
end Go.Proofs.Ythldpnifodbheaa
namespace Go.Proofs.Ythldpnifodbheaa
def validA (v : Bool) (bs : List Nat) : Prop := v = true ∨ ∀ i, 4 ≤ i → i < 16 → bs.getD i 0 = 0
set_option maxRecDepth 100000 in
theorem list16 (bs : List Nat) (h : bs.length = 16) : ∃ b0 b1 b2 b3 b4 b5 b6 b7 b8 b9 b10 b11 b12 b13 b14 b15, bs = [b0, b1, b2, b3, b4, b5, b6, b7, b8, b9, b10, b11, b12, b13, b14, b15] := by
  match bs, h with
  | [b0, b1, b2, b3, b4, b5, b6, b7, b8, b9, b10, b11, b12, b13, b14, b15], _ => exact ⟨b0, b1, b2, b3, b4, b5, b6, b7, b8, b9, b10, b11, b12, b13, b14, b15, rfl⟩
def vldA (v : Bool) (bs : List Nat) : Bool := v || (List.range 12).all fun i => bs.getD (4 + i) 0 == 0
set_option maxRecDepth 100000 in
theorem vldA_spec {v : Bool} {bs : List Nat} : vldA v bs = true ↔ validA v bs := by
  unfold vldA validA
  rw [Bool.or_eq_true, List.all_eq_true]
  constructor
  · rintro (h | h)
    · exact .inl h
    · refine .inr fun i h1 h2 => ?_
      have := h (i - 4) (List.mem_range.2 (by omega))
      rw [show 4 + (i - 4) = i by omega] at this
      simpa using this
  · rintro (h | h)
    · exact .inl h
    · exact .inr fun i hi => by simpa using h (4 + i) (by omega) (by have := List.mem_range.1 hi; omega)
end Go.Proofs.Ythldpnifodbheaa
