/- The functions of addr at an address that is told by its bytes. -/
import Derived.Test.YtjcmidgeddhfoaaDoorPA
import Derived.Test.YtjcmidgeddhfoaaDoorSm
import Derived.Test.YtjcmidgeddhfoaaDoorFr
import Derived.Test.YtjcmidgeddhfoaaDoorRV
namespace Go.Proofs.YtjcmidgeddhfoaaDoor
open Go.RowKit Go.Lib

theorem text_adr (v : Bool) (bs : List Nat) (hl : bs.length = 16) (hb : ∀ n ∈ bs, n < 256) (w : World) (hE : Env w) :
    Calls Tryd.prog 9 #[adr v bs] w fun e w' => e = .returned (.string ⟨(textA v bs).toArray⟩) ∧ Below w.heap.size w w' := by
  obtain ⟨b0, b1, b2, b3, b4, b5, b6, b7, b8, b9, b10, b11, b12, b13, b14, b15, rfl⟩ := list16 bs hl
  cases v with
  | true => exact text_six b0 b1 b2 b3 b4 b5 b6 b7 b8 b9 b10 b11 b12 b13 b14 b15 hb w
  | false => exact text_four b0 b1 b2 b3 b4 b5 b6 b7 b8 b9 b10 b11 b12 b13 b14 b15 (fun n hn => hb n (List.mem_of_mem_take (i := 4) hn)) w hE
theorem ref_adr (v : Bool) (bs : List Nat) (hl : bs.length = 16) (w : World) :
    Calls Tryd.prog 6 #[adr v bs] w fun e w' => e = .returned (.bool (vldA v bs)) ∧ Below w.heap.size w w' := by
  obtain ⟨b0, b1, b2, b3, b4, b5, b6, b7, b8, b9, b10, b11, b12, b13, b14, b15, rfl⟩ := list16 bs hl
  exact ref_valid v b0 b1 b2 b3 b4 b5 b6 b7 b8 b9 b10 b11 b12 b13 b14 b15 w
theorem parse_adr (v : Bool) (bs : List Nat) (hl : bs.length = 16) (hb : ∀ n ∈ bs, n < 256) (hv : validA v bs) (w : World) (hE : Env w) (hs : (textA v bs).length ≤ 140737488355328) :
    Calls Tryd.prog 8 #[.string ⟨(textA v bs).toArray⟩] w fun e w' => e = .returned (.tuple #[adr v bs, .int .i64 0]) ∧ Below w.heap.size w w' := by
  have h := parse_any ⟨(textA v bs).toArray⟩ w (show (textA v bs).length ≤ _ from hs) hE
  rw [show (⟨(textA v bs).toArray⟩ : ByteArray).data.toList = textA v bs from by simp, parseA_text v bs hl hb hv] at h
  exact h
/-- The bytes of an address. -/
def bytesA (v : Bool) (bs : List Nat) : List Nat := if v then bs else bs.take 4
theorem bytes_adr (v : Bool) (bs : List Nat) (hl : bs.length = 16) (w : World) :
    Calls Tryd.prog 11 #[adr v bs] w fun e w' => ∃ z, e = .returned z ∧ Rd w' z (nus .u8 (bytesA v bs)) ∧ Below w.heap.size w w' := by
  obtain ⟨b0, b1, b2, b3, b4, b5, b6, b7, b8, b9, b10, b11, b12, b13, b14, b15, rfl⟩ := list16 bs hl
  cases v with
  | true => exact bytes_six b0 b1 b2 b3 b4 b5 b6 b7 b8 b9 b10 b11 b12 b13 b14 b15 w
  | false => exact bytes_four b0 b1 b2 b3 b4 b5 b6 b7 b8 b9 b10 b11 b12 b13 b14 b15 w
theorem from_adr (v : Bool) (bs : List Nat) (hl : bs.length = 16) (hv : validA v bs) (z : Value) (w : World) (hr : Rd w z (nus .u8 (bytesA v bs))) :
    Calls Tryd.prog 10 #[z] w fun e w' => e = .returned (.tuple #[adr v bs, .int .i64 0]) ∧ Below w.heap.size w w' := by
  cases v with
  | true =>
    have h := from_ok z true bs w hr (.inr ⟨hl, rfl⟩)
    rw [hl] at h
    simpa using h
  | false =>
    have h4 : (bs.take 4).length = 4 := by simp [hl]
    have h := from_ok z false (bs.take 4) w hr (.inl ⟨h4, rfl⟩)
    have e : bs.take 4 ++ List.replicate (16 - (bs.take 4).length) 0 = bs := by
      rw [h4]
      rcases hv with hv | hv
      · cases hv
      · refine ext_getD _ _ 0 (by simp [hl]) fun i hi => ?_
        have hi16 : i < 16 := by simpa [hl] using hi
        by_cases h : i < 4
        · rw [List.getD_eq_getElem?_getD, List.getElem?_append_left (by rw [h4]; exact h), List.getElem?_take_of_lt h, ← List.getD_eq_getElem?_getD]
        · rw [hv i (by omega) hi16, List.getD_eq_getElem?_getD, List.getElem?_append_right (by rw [h4]; omega), h4, List.getElem?_replicate]
          split <;> rfl
    rw [e] at h
    exact h
theorem eq_adr (v : Bool) (bs : List Nat) (hl : bs.length = 16) (hb : ∀ n ∈ bs, n < 256) (w : World) : (Op.equalIn 10000 24 (adr v bs) (adr v bs)).run Tryd.prog w = .ok true w := by
  obtain ⟨b0, b1, b2, b3, b4, b5, b6, b7, b8, b9, b10, b11, b12, b13, b14, b15, rfl⟩ := list16 bs hl
  exact eq_same v b0 b1 b2 b3 b4 b5 b6 b7 b8 b9 b10 b11 b12 b13 b14 b15 hb w
theorem valid_adr (v : Bool) (bs : List Nat) (hl : bs.length = 16) (hv : validA v bs) (w : World) :
    Calls Tryd.prog 14 #[adr v bs] w fun e w' => e = .returned (.bool true) ∧ Below w.heap.size w w' := by
  obtain ⟨b0, b1, b2, b3, b4, b5, b6, b7, b8, b9, b10, b11, b12, b13, b14, b15, rfl⟩ := list16 bs hl
  cases v with
  | true => exact valid_six b0 b1 b2 b3 b4 b5 b6 b7 b8 b9 b10 b11 b12 b13 b14 b15 w
  | false =>
    rcases hv with hv | hv
    · cases hv
    · obtain rfl : b4 = 0 := hv 4 (by omega) (by omega)
      obtain rfl : b5 = 0 := hv 5 (by omega) (by omega)
      obtain rfl : b6 = 0 := hv 6 (by omega) (by omega)
      obtain rfl : b7 = 0 := hv 7 (by omega) (by omega)
      obtain rfl : b8 = 0 := hv 8 (by omega) (by omega)
      obtain rfl : b9 = 0 := hv 9 (by omega) (by omega)
      obtain rfl : b10 = 0 := hv 10 (by omega) (by omega)
      obtain rfl : b11 = 0 := hv 11 (by omega) (by omega)
      obtain rfl : b12 = 0 := hv 12 (by omega) (by omega)
      obtain rfl : b13 = 0 := hv 13 (by omega) (by omega)
      obtain rfl : b14 = 0 := hv 14 (by omega) (by omega)
      obtain rfl : b15 = 0 := hv 15 (by omega) (by omega)
      exact valid_four b0 b1 b2 b3 w
theorem textA_len (v : Bool) (bs : List Nat) (hl : bs.length = 16) (hb : ∀ n ∈ bs, n < 256) : (textA v bs).length ≤ 39 := by
  cases v with
  | true => exact Nat.le_of_eq (text6_length bs)
  | false =>
    have h := pre4_len bs 4 hb (by omega)
    have : (textA false bs).length ≤ 4 * 4 := h
    omega
end Go.Proofs.YtjcmidgeddhfoaaDoor
