/- Contracts of chksum.round and chksum.Update. -/
import Derived.Test.YtjcmidgeddhfoaaWd
import Derived.Test.YtjcmidgeddhfoaaCM
import Derived.Test.YtjcmidgeddhfoaaRnd
import Derived.Handy
namespace Go.Proofs.Ytjcmidgeddhfoaa
open Go.RowKit Go.Shelf
theorem low16 (x : Nat) (h : x < 18446744073709551616) : bits .and .u64 (x : Int) 65535 = ((x % 65536 : Nat) : Int) := by
  rw [show (65535 : Int) = ((65535 : Nat) : Int) from rfl, Go.bits_and_u64_nat _ _ h (by omega), show 65535 = 2 ^ 16 - 1 from rfl, Nat.and_two_pow_sub_one_eq_mod]
theorem go_on (x : Nat) (h : x < 18446744073709551616) : IntKind.u64.wrap ((x : Int) / 65536 + bits .and .u64 (x : Int) 65535) = ((x / 65536 + x % 65536 : Nat) : Int) := by
  rw [low16 x h, IntKind.wrap_u64]; omega
set_option maxHeartbeats 400000 in
theorem rnd_any (u : Nat) (w : World) (h : u < 18446744073709551616) :
    Calls Try.prog 18 #[.int .u64 (u : Int)] w fun e w' => e = .returned (.int .u16 (gr u : Nat)) ∧ w = w' := by
  go_enter Try.func18, Try.ntmps18
  go_wp2
  go_loop [0] (fun v => ∃ x : Nat, gr x = gr u ∧ x < 18446744073709551616 ∧ v = .int .u64 x) (fun v => (intOf v).toNat)
  case atStart => exact ⟨u, rfl, h, rfl⟩
  case round =>
    obtain ⟨x, hg, hx, rfl⟩ := hrel
    have HG := Lib.hid hg
    clear hg
    by_cases hlt : 65535 < x
    · have hst := Lib.hid (gr_step x hlt)
      have ho := Lib.hid (go_on x hx)
      go_wp2
      go_round
      case rel => exact ⟨x / 65536 + x % 65536, by rw [hst.out, HG.out], by omega, by rw [ho.out]⟩
      case measure => rw [ho.out]; simp [intOf]; omega
    · have hfin := Lib.hid (gr_lt u x HG.out (by omega))
      go_wp2
      go_ret
      exact ⟨by rw [← hfin.out]; rfl, rfl⟩
theorem not16 (o : Nat) (h : o < 65536) : bits BinOp.xor IntKind.u16 IntKind.u16.max (o : Int) = ((65535 - o : Nat) : Int) := by
  rw [show IntKind.u16.max = ((65535 : Nat) : Int) from rfl, u16_xor_nat _ _ (by omega) h]
  congr 1
  apply Nat.eq_of_testBit_eq
  intro i
  rw [show 65535 - o = 2 ^ 16 - (o + 1) from by omega, Nat.testBit_two_pow_sub_succ (by omega), Nat.testBit_xor, show (65535 : Nat) = 2 ^ 16 - 1 from rfl, Nat.testBit_two_pow_sub_one]
  by_cases hi : i < 16
  · simp [hi]
  · have : o.testBit i = false := Nat.testBit_lt_two_pow (Nat.lt_of_lt_of_le h (Nat.pow_le_pow_right (n := 2) (by decide) (show 16 ≤ i by omega)))
    simp [hi, this]
theorem upd_sum (o f t : Nat) (ho : o < 65536) (hf : f < 65536) (ht : t < 65536) :
    IntKind.u64.wrap (IntKind.u64.wrap (IntKind.u64.wrap (bits BinOp.xor IntKind.u16 IntKind.u16.max (o : Int)) + IntKind.u64.wrap (bits BinOp.xor IntKind.u16 IntKind.u16.max (f : Int))) + (t : Int)) = (((65535 - o) + (65535 - f) + t : Nat) : Int) := by
  rw [not16 o ho, not16 f hf]
  simp only [IntKind.wrap_u64]
  omega
set_option maxHeartbeats 400000 in
theorem upd_any (o f t : Nat) (w : World) (ho : o < 65536) (hf : f < 65536) (ht : t < 65536) :
    Calls Try.prog 7 #[.int .u16 (o : Int), .int .u16 (f : Int), .int .u16 (t : Int)] w fun e w' => e = .returned (.int .u16 (upd o f t : Nat)) ∧ w = w' := by
  have h1 := Lib.hid (upd_sum o f t ho hf ht)
  have h2 := Lib.hid (not16 (gr ((65535 - o) + (65535 - f) + t)) (by have := gr_le ((65535 - o) + (65535 - f) + t); omega))
  go_enter Try.func7, Try.ntmps7
  go_wp2_with fail
  rw [h1.out]
  refine (rnd_any _ _ (by omega)).mono ?_
  rintro e w' ⟨rfl, rfl⟩
  go_wp2
  go_ret
  exact ⟨ret_int h2.out, rfl⟩
end Go.Proofs.Ytjcmidgeddhfoaa
