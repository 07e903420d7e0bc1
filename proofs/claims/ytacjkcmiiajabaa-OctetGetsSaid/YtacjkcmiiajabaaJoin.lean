/- Plain facts on numbers joined one behind the other. -/
import Derived.Test.YtacjkcmiiajabaaOctE
namespace Go.Proofs.Ytacjkcmiiajabaa
open Go.RowKit

theorem bg_mod : ∀ n v, bg n (v % 256 ^ n) = bg n v
  | 0, _ => rfl
  | n + 1, v => by
    simp only [bg]
    rw [show v % 256 ^ (n + 1) / 256 = v / 256 % 256 ^ n from by
      rw [Nat.pow_succ, Nat.mul_comm, Nat.mod_mul_right_div_self], bg_mod n (v / 256)]
    rw [show v % 256 ^ (n + 1) % 256 = v % 256 from by rw [Nat.pow_succ]; exact Nat.mod_mul_left_mod _ _ _]
theorem be_bg : ∀ n v, be (bg n v) = v % 256 ^ n
  | 0, v => by simp [bg, be, Nat.mod_one]
  | n + 1, v => by
    rw [bg, be_snoc, be_bg n (v / 256), Nat.pow_succ, Nat.mul_comm (256 ^ n) 256, Nat.mod_mul]
    omega

/-- How many bytes the number at a place has. -/
def sz (i : Nat) : Nat := 2 ^ (i % 4)
/-- The first numbers' bytes, one behind the other. -/
def joined (ls : List Nat) : Nat → List Nat
  | 0 => []
  | j + 1 => joined ls j ++ bg (sz j) (ls.getD j 0)
theorem joined_prefix (ls : List Nat) (n : Nat) : ∀ m, n ≤ m → ∃ t, joined ls m = joined ls n ++ t
  | 0, h => ⟨[], by rw [Nat.le_zero.1 h]; rfl⟩
  | m + 1, h => by
    by_cases e : n = m + 1
    · exact ⟨[], by rw [e]; simp⟩
    · obtain ⟨t, ht⟩ := joined_prefix ls n m (by omega)
      exact ⟨t ++ bg (sz m) (ls.getD m 0), by rw [joined, ht, List.append_assoc]⟩
theorem joined_length (ls : List Nat) : ∀ j, (joined ls (j + 1)).length = (joined ls j).length + sz j := fun j => by rw [joined, List.length_append, bg_length]
theorem sz_le (i : Nat) : sz i ≤ 8 := by
  unfold sz
  have : i % 4 < 4 := Nat.mod_lt _ (by decide)
  have h : i % 4 = 0 ∨ i % 4 = 1 ∨ i % 4 = 2 ∨ i % 4 = 3 := by omega
  rcases h with h | h | h | h <;> rw [h] <;> decide
theorem joined_le (ls : List Nat) : ∀ j, (joined ls j).length ≤ 8 * j
  | 0 => by simp [joined]
  | j + 1 => by have := joined_le ls j; have := sz_le j; rw [joined_length]; omega
theorem joined_at (ls : List Nat) (j m : Nat) (h : j < m) : ((joined ls m).drop (joined ls j).length).take (sz j) = bg (sz j) (ls.getD j 0) := by
  obtain ⟨t, ht⟩ := joined_prefix ls (j + 1) m h
  rw [ht, joined, List.append_assoc, List.drop_left]
  rw [List.take_append_of_le_length (by rw [bg_length]; exact Nat.le_refl _), List.take_of_length_le (by rw [bg_length]; exact Nat.le_refl _)]
theorem joined_fits (ls : List Nat) (j m : Nat) (h : j < m) : (joined ls j).length + sz j ≤ (joined ls m).length := by
  obtain ⟨t, ht⟩ := joined_prefix ls (j + 1) m h
  rw [ht, List.length_append, joined_length]; omega
theorem joined_lt (ls : List Nat) : ∀ j, ∀ c ∈ joined ls j, c < 256
  | 0, c, h => by cases h
  | j + 1, c, h => by
    rcases List.mem_append.1 h with h | h
    · exact joined_lt ls j c h
    · exact bg_lt _ _ c h

theorem xor_low8 (x : Nat) (h : x < 18446744073709551616) : bits .xor .u64 ((x % 256 : Nat) : Int) (bits .and .u64 (x : Int) 255) = 0 := by
  have e : bits .and .u64 (x : Int) 255 = ((x % 256 : Nat) : Int) := by
    rw [show (255 : Int) = ((255 : Nat) : Int) from rfl, u64_and_nat x 255 h (by decide), nat_mask8]
  rw [e, u64_xor_nat _ _ (by omega) (by omega), Nat.xor_self]; rfl
theorem xor_low16 (x : Nat) (h : x < 18446744073709551616) : bits .xor .u64 ((x % 65536 : Nat) : Int) (bits .and .u64 (x : Int) 65535) = 0 := by
  have e : bits .and .u64 (x : Int) 65535 = ((x % 65536 : Nat) : Int) := by
    rw [show (65535 : Int) = ((65535 : Nat) : Int) from rfl, u64_and_nat x 65535 h (by decide)]
    rw [show (65535 : Nat) = 2 ^ 16 - 1 from rfl, Nat.and_two_pow_sub_one_eq_mod]
  rw [e, u64_xor_nat _ _ (by omega) (by omega), Nat.xor_self]; rfl
theorem xor_low32 (x : Nat) (h : x < 18446744073709551616) : bits .xor .u64 ((x % 4294967296 : Nat) : Int) (bits .and .u64 (x : Int) 4294967295) = 0 := by
  have e : bits .and .u64 (x : Int) 4294967295 = ((x % 4294967296 : Nat) : Int) := by
    rw [show (4294967295 : Int) = ((4294967295 : Nat) : Int) from rfl, u64_and_nat x 4294967295 h (by decide)]
    rw [show (4294967295 : Nat) = 2 ^ 32 - 1 from rfl, Nat.and_two_pow_sub_one_eq_mod]
  rw [e, u64_xor_nat _ _ (by omega) (by omega), Nat.xor_self]; rfl
theorem xor_low64 (x : Nat) (h : x < 18446744073709551616) : bits .xor .u64 (x : Int) (x : Int) = 0 := by
  rw [u64_xor_nat _ _ h h, Nat.xor_self]; rfl
end Go.Proofs.Ytacjkcmiiajabaa
