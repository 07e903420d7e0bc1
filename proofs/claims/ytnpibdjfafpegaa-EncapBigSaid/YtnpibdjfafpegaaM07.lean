/- Texts that the walks of this seat lean on, put together. -/
import Derived.WalkKit
import Derived.WalkSpells
import Derived.Handy
import Derived.Lib.Hide
import Derived.Test.YtnpibdjfafpegaaTk
import Derived.Test.YtnpibdjfafpegaaM01
import Derived.Test.YtnpibdjfafpegaaProg
namespace Go.Proofs.Ytnpibdjfafpegaa
open Go.RowKit
def gr (u : Nat) : Nat := if u = 0 then 0 else (u - 1) % 65535 + 1
theorem gr_small (u : Nat) (h : u ≤ 65535) : gr u = u := by unfold gr; split <;> omega
theorem gr_le (u : Nat) : gr u ≤ 65535 := by unfold gr; split <;> omega
theorem gr_step (u : Nat) (h : 65535 < u) : gr (u / 65536 + u % 65536) = gr u := by
  unfold gr
  rw [if_neg (by omega), if_neg (by omega)]
  omega
theorem gr_mod (u : Nat) : gr u % 65535 = u % 65535 := by unfold gr; split <;> omega
theorem gr_lt (u v : Nat) (h : gr v = gr u) (hv : v ≤ 65535) : v = gr u := by rw [← h, gr_small v hv]
def wt (p : Nat) : Nat := if p % 2 = 0 then 256 else 1
def wsp : Nat → List Nat → Nat
  | _, [] => 0
  | p, x :: r => x * wt p + wsp (p + 1) r
theorem wt_eq (p q : Nat) (h : p % 2 = q % 2) : wt p = wt q := by unfold wt; rw [h]
theorem wt_even (p : Nat) (h : p % 2 = 0) : wt p = 256 := by unfold wt; rw [if_pos h]
theorem wt_odd (p : Nat) (h : p % 2 = 1) : wt p = 1 := by unfold wt; rw [if_neg (by omega)]
theorem wsp_eq : ∀ (l : List Nat) (p q : Nat), p % 2 = q % 2 → wsp p l = wsp q l
  | [], _, _, _ => rfl
  | x :: r, p, q, h => by
    have := wsp_eq r (p + 1) (q + 1) (by omega)
    simp only [wsp]
    rw [wt_eq p q h, this]
theorem wsp_append : ∀ (a b : List Nat) (p : Nat), wsp p (a ++ b) = wsp p a + wsp (p + a.length) b
  | [], b, p => by simp [wsp]
  | x :: r, b, p => by
    have := wsp_append r b (p + 1)
    simp only [wsp, List.cons_append, List.length_cons]
    rw [this, show p + 1 + r.length = p + (r.length + 1) from by omega, Nat.add_assoc]
theorem wsp_zeros : ∀ (n p : Nat), wsp p (List.replicate n 0) = 0
  | 0, _ => rfl
  | n + 1, p => by simp only [List.replicate_succ, wsp, wsp_zeros n (p + 1), Nat.zero_mul]
theorem wsp_le : ∀ (l : List Nat) (p : Nat), (∀ c ∈ l, c < 256) → wsp p l ≤ 65280 * l.length
  | [], _, _ => by simp [wsp]
  | x :: r, p, h => by
    have h1 := wsp_le r (p + 1) (fun c hc => h c (by simp [hc]))
    have h2 := h x (by simp)
    simp only [wsp, List.length_cons]
    rcases (show wt p = 256 ∨ wt p = 1 from by unfold wt; split <;> simp) with e | e <;> rw [e] <;> omega
def w2 (E : List Nat) (j : Nat) : Nat := E.getD (2 * j) 0 * 256 + E.getD (2 * j + 1) 0
theorem be_two (E : List Nat) (k : Nat) (h : k + 2 ≤ E.length) : be ((E.drop k).take 2) = E.getD k 0 * 256 + E.getD (k + 1) 0 := by
  rw [be_step E k 1 (by omega), be_step E k 0 (by omega)]
  simp [be]
theorem take_snoc (E : List Nat) (k : Nat) (h : k < E.length) : E.take (k + 1) = E.take k ++ [E.getD k 0] := by
  rw [List.take_succ_eq_append_getElem h]
  simp [List.getD_eq_getElem?_getD, List.getElem?_eq_getElem h]
theorem wsp_take_one (E : List Nat) (k : Nat) (h : k < E.length) : wsp 0 (E.take (k + 1)) = wsp 0 (E.take k) + E.getD k 0 * wt k := by
  rw [take_snoc E k h, wsp_append]
  simp [wsp, Nat.min_eq_left (Nat.le_of_lt h)]
theorem wsp_two (E : List Nat) (j : Nat) (h : 2 * j < E.length) : wsp 0 (E.take (2 * (j + 1))) = wsp 0 (E.take (2 * j)) + w2 E j := by
  have h1 := wsp_take_one E (2 * j) h
  rw [wt_even _ (by omega)] at h1
  unfold w2
  by_cases h2 : 2 * j + 1 < E.length
  · have h3 := wsp_take_one E (2 * j + 1) h2
    rw [wt_odd _ (by omega)] at h3
    rw [show 2 * (j + 1) = 2 * j + 1 + 1 from by omega, h3, h1]
    omega
  · have e : E.getD (2 * j + 1) 0 = 0 := by rw [List.getD_eq_getElem?_getD, List.getElem?_eq_none (by omega)]; rfl
    have e2 : E.take (2 * (j + 1)) = E.take (2 * j + 1) := by rw [List.take_of_length_le (by omega), List.take_of_length_le (by omega)]
    rw [e2, h1, e]
    omega
theorem wsp_take_lt (E : List Nat) (k : Nat) (h : ∀ c ∈ E, c < 256) : wsp 0 (E.take k) ≤ 65280 * E.length := by
  have h1 := wsp_le (E.take k) 0 (fun c hc => h c (List.mem_of_mem_take hc))
  have h2 := List.length_take_le' k E
  omega
def ck (b : List Nat) : Nat := 65535 - gr (wsp 0 b)
theorem ck_le (b : List Nat) : ck b ≤ 65535 := by unfold ck; omega
theorem ck_mod (b : List Nat) : (ck b + wsp 0 b) % 65535 = 0 := by
  have h1 := gr_mod (wsp 0 b)
  have h2 := gr_le (wsp 0 b)
  unfold ck
  omega
end Go.Proofs.Ytnpibdjfafpegaa
namespace Go.Proofs.Ytnpibdjfafpegaa
open Go.RowKit
theorem round_math (k n : Int) (h : 0 < n) : (k.tmod n + n) % n = k % n := by
  rw [Int.add_emod_right, Int.tmod_eq_emod]
  split
  · simp
  · rw [show ((n.natAbs : Int)) = n from by omega, Int.sub_emod_right, Int.emod_emod_of_dvd _ (Int.dvd_refl n)]
set_option maxHeartbeats 400000 in
theorem round_any (k n : Int) (w : World) (h : 0 < n) (h2 : n ≤ 4611686018427387903) :
    Calls Try.prog 16 #[.int .i64 k, .int .i64 n] w fun e w' => e = .returned (.int .i64 (k % n)) ∧ w = w' := by
  have a1 := Int.lt_tmod_of_pos k h
  have a2 := Int.tmod_lt_of_pos k h
  have hm := Lib.hid (round_math k n h)
  go_enter Try.func16, Try.ntmps16
  go_wp2
  go_ret
  exact ⟨ret_int (by rw [← hm.out]), rfl⟩
end Go.Proofs.Ytnpibdjfafpegaa
