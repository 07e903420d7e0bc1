/- Plain facts on numbers and lists: a number's bytes, the high one first. Nothing of the program. -/
import Derived.WalkKit
import Derived.Lib.Hide
namespace Go.Proofs.Ytimnmdeiiahakaa
open Go.RowKit

/-- The number of bytes, the high one first. -/
def be (l : List Nat) : Nat := l.foldl (fun v c => v * 256 + c) 0

set_option maxRecDepth 100000 in
theorem be_nil : be [] = 0 := rfl
set_option maxRecDepth 100000 in
theorem be_snoc (l : List Nat) (c : Nat) : be (l ++ [c]) = be l * 256 + c := by simp [be]
set_option maxRecDepth 100000 in
theorem fold_lt (l : List Nat) (h : ∀ c ∈ l, c < 256) : ∀ a, l.foldl (fun v c => v * 256 + c) a < (a + 1) * 256 ^ l.length := by
  induction l with
  | nil => intro a; simp
  | cons c l ih =>
    intro a
    have h1 := ih (fun x hx => h x (by simp [hx])) (a * 256 + c)
    have h2 := h c (by simp)
    have h3 : (a * 256 + c + 1) * 256 ^ l.length ≤ (a + 1) * 256 * 256 ^ l.length := Nat.mul_le_mul_right _ (by omega)
    rw [List.foldl_cons, List.length_cons, Nat.pow_succ]
    calc _ < _ := h1
      _ ≤ _ := h3
      _ = _ := by rw [Nat.mul_assoc, Nat.mul_comm 256]
set_option maxRecDepth 100000 in
theorem be_lt (l : List Nat) (h : ∀ c ∈ l, c < 256) : be l < 256 ^ l.length := by simpa [be] using fold_lt l h 0

set_option maxRecDepth 100000 in
theorem or_step (v c : Nat) (hv : v < 72057594037927936) (hc : c < 256) :
    bits .or .u64 (IntKind.u64.wrap ((v : Int) * 256)) (c : Int) = ((v * 256 + c : Nat) : Int) := by
  have e : IntKind.u64.wrap ((v : Int) * 256) = ((v * 256 : Nat) : Int) := by
    rw [IntKind.wrap_u64]; omega
  rw [e, Go.bits_or_u64_nat _ _ (by omega) (by omega), nat_join 8 (v * 256) c (by omega) (by omega)]

set_option maxRecDepth 100000 in
theorem take_step (l : List Nat) (k j : Nat) (h : k + j < l.length) : (l.drop k).take (j + 1) = (l.drop k).take j ++ [l.getD (k + j) 0] := by
  rw [List.take_succ_eq_append_getElem (by simp; omega)]
  simp [List.getD_eq_getElem?_getD, List.getElem?_eq_getElem h]

set_option maxRecDepth 100000 in
theorem be_step (l : List Nat) (k j : Nat) (h : k + j < l.length) : be ((l.drop k).take (j + 1)) = be ((l.drop k).take j) * 256 + l.getD (k + j) 0 := by
  rw [take_step l k j h, be_snoc]

set_option maxRecDepth 100000 in
theorem be_take_lt (l : List Nat) (k j : Nat) (h : ∀ c ∈ l, c < 256) (hj : k + j ≤ l.length) : be ((l.drop k).take j) < 256 ^ j := by
  have := be_lt ((l.drop k).take j) (fun c hc => h c (List.mem_of_mem_drop (List.mem_of_mem_take hc)))
  rwa [show ((l.drop k).take j).length = j from by simp; omega] at this

set_option maxRecDepth 100000 in
theorem getD_lt (l : List Nat) (h : ∀ c ∈ l, c < 256) (i : Nat) : l.getD i 0 < 256 := by
  rw [List.getD_eq_getElem?_getD]
  cases hi : l[i]? with
  | none => simp
  | some c => simpa using h c (List.mem_of_getElem? hi)

set_option maxRecDepth 100000 in
theorem pow_mono (j n : Nat) (h : j ≤ n) : 256 ^ j ≤ 256 ^ n := Nat.pow_le_pow_right (by decide) h

set_option maxRecDepth 100000 in
theorem ret_int {k : IntKind} {a b : Int} (h : a = b) : Ending.returned (.int k a) = .returned (.int k b) := by rw [h]
end Go.Proofs.Ytimnmdeiiahakaa
