/- crc.rest: what is left of a byte. -/
import Derived.Test.YthgcgkfcofomcaaP36
import Derived.Test.YthgcgkfcofomcaaRnd
import Derived.LoopTactic
import Derived.Handy
import Derived.Laws.BitsAllLaws
namespace Go.Proofs.Ythgcgkfcofomcaa
open Go.RowKit Go.Lib

theorem and1_u32 (x : Nat) (h : x < 4294967296) : bits .and .u32 (x : Int) 1 = ((x % 2 : Nat) : Int) := by
  have := u32_and_nat x 1 h (by decide)
  rw [nat_mask1] at this
  exact this
theorem xor_u32 (a b : Nat) (ha : a < 4294967296) (hb : b < 4294967296) : bits .xor .u32 (a : Int) (b : Int) = ((a ^^^ b : Nat) : Int) := u32_xor_nat a b ha hb
theorem stp_odd (p x : Nat) (h : x % 2 = 1) : stp p x = x / 2 ^^^ p := by unfold stp; rw [if_pos h]
theorem stp_not (p x : Nat) (h : x % 2 = 0) : stp p x = x / 2 := by unfold stp; rw [if_neg (by omega)]
theorem stpN_next (p k x R : Nat) (hk : k < 8) (h : stpN p (8 - k) x = R) : stpN p (8 - (k + 1)) (stp p x) = R := by
  rw [show 8 - k = (8 - (k + 1)) + 1 by omega] at h
  exact h
set_option maxRecDepth 100000 in
set_option maxHeartbeats 400000 in
theorem rest_any (p n : Nat) (hp : p < 4294967296) (hn : n < 4294967296) (w : World) :
    Calls Try.prog 15 #[.int .u32 (p : Int), .int .u32 (n : Int)] w fun e w' => e = .returned (.int .u32 ((tabC p n : Nat) : Int)) ∧ w = w' := by
  go_enter Try.func15, Try.ntmps15
  go_wp2
  go_loopw [1, 5] (fun r i wr => ∃ k x : Nat, k ≤ 8 ∧ i = .int .i64 (k : Int) ∧ r = .int .u32 (x : Int) ∧ Hid (x < 4294967296 ∧ stpN p (8 - k) x = tabC p n) ∧ w = wr) (fun _ i _ => 8 - (RowKit.intOf i).toNat)
  case atStart => exact ⟨0, n, by omega, rfl, rfl, ⟨hn, rfl⟩, rfl⟩
  case round =>
    obtain ⟨k, x, hk, rfl, rfl, hx, rfl⟩ := hrel
    by_cases hlt : k < 8
    · have d8 : decide ((k : Int) < 8) = true := decide_eq_true (by omega)
      have A1 := Lib.hid (and1_u32 x hx.out.1)
      have X1 := Lib.hid (xor_u32 (x / 2) p (by have := hx.out.1; omega) hp)
      have hq := Lib.hid (stp_lt p x hp hx.out.1)
      have hN := Lib.hid (stpN_next p k x _ hlt hx.out.2)
      have hd : (x : Int) / 2 = ((x / 2 : Nat) : Int) := by omega
      have HD := Lib.hid hd
      clear hd
      have hm : x % 2 = 0 ∨ x % 2 = 1 := by omega
      rcases hm with hm | hm
      · have hS := Lib.hid (stp_not p x hm)
        have a1 : bits .and .u32 (x : Int) 1 = 0 := by rw [A1.out, hm]; rfl
        go_wp2
        go_roundw
        case rel => exact ⟨k + 1, stp p x, Nat.succ_le_of_lt hlt, by go_num, by rw [hS.out, HD.out], ⟨hq.out, hN.out⟩, trivial⟩
        case measure => simp [RowKit.intOf]; omega
      · have hS := Lib.hid (stp_odd p x hm)
        have a1 : bits .and .u32 (x : Int) 1 = 1 := by rw [A1.out, hm]; rfl
        go_wp2
        go_roundw
        case rel => exact ⟨k + 1, stp p x, Nat.succ_le_of_lt hlt, by go_num, by rw [hS.out, HD.out, X1.out], ⟨hq.out, hN.out⟩, trivial⟩
        case measure => simp [RowKit.intOf]; omega
    · obtain rfl : k = 8 := by omega
      have d16 : decide (((8 : Nat) : Int) < 8) = false := by decide
      go_wp2
      go_ret
      exact ⟨by rw [← hx.out.2]; rfl, rfl⟩
end Go.Proofs.Ythgcgkfcofomcaa
