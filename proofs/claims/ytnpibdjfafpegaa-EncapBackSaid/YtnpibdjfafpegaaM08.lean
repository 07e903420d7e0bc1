/- Texts that the walks of this seat lean on, put together. -/
import Derived.Handy
import Derived.Test.YtnpibdjfafpegaaTk
import Derived.Test.YtnpibdjfafpegaaM06
import Derived.Test.YtnpibdjfafpegaaM07
namespace Go.Proofs.Ytnpibdjfafpegaa
open Go.RowKit Go.Shelf
theorem low16 (x : Nat) (h : x < 18446744073709551616) : bits .and .u64 (x : Int) 65535 = ((x % 65536 : Nat) : Int) := by
  rw [show (65535 : Int) = ((65535 : Nat) : Int) from rfl, Go.bits_and_u64_nat _ _ h (by omega), show 65535 = 2 ^ 16 - 1 from rfl, Nat.and_two_pow_sub_one_eq_mod]
theorem go_on (x : Nat) (h : x < 18446744073709551616) : IntKind.u64.wrap ((x : Int) / 65536 + bits .and .u64 (x : Int) 65535) = ((x / 65536 + x % 65536 : Nat) : Int) := by
  rw [low16 x h, IntKind.wrap_u64]; omega
set_option maxHeartbeats 400000 in
theorem rnd_any (u : Nat) (w : World) (h : u < 18446744073709551616) :
    Calls Try.prog 75 #[.int .u64 (u : Int)] w fun e w' => e = .returned (.int .u16 (gr u : Nat)) ∧ w = w' := by
  go_enter Try.func75, Try.ntmps75
  go_wp2
  go_loop [0] (fun v => ∃ x : Nat, gr x = gr u ∧ x < 18446744073709551616 ∧ v = .int .u64 x) (fun v => (intOf v).toNat)
  case atStart => exact ⟨u, rfl, h, rfl⟩
  case round =>
    obtain ⟨x, hg, hx, rfl⟩ := hrel
    have HG := Lib.hid hg
    clear hg
    by_cases hlt : 65535 < x
    · have hst := Lib.hid (gr_step x hlt)
      have ho := Lib.hid (go_on x hx)
      go_wp2
      go_round
      case rel => exact ⟨x / 65536 + x % 65536, by rw [hst.out, HG.out], by omega, by rw [ho.out]⟩
      case measure => rw [ho.out]; simp [intOf]; omega
    · have hfin := Lib.hid (gr_lt u x HG.out (by omega))
      go_wp2
      go_ret
      exact ⟨by rw [← hfin.out]; rfl, rfl⟩
theorem not16 (o : Nat) (h : o < 65536) : bits BinOp.xor IntKind.u16 IntKind.u16.max (o : Int) = ((65535 - o : Nat) : Int) := by
  rw [show IntKind.u16.max = ((65535 : Nat) : Int) from rfl, u16_xor_nat _ _ (by omega) h]
  congr 1
  apply Nat.eq_of_testBit_eq
  intro i
  rw [show 65535 - o = 2 ^ 16 - (o + 1) from by omega, Nat.testBit_two_pow_sub_succ (by omega), Nat.testBit_xor, show (65535 : Nat) = 2 ^ 16 - 1 from rfl, Nat.testBit_two_pow_sub_one]
  by_cases hi : i < 16
  · simp [hi]
  · have : o.testBit i = false := Nat.testBit_lt_two_pow (Nat.lt_of_lt_of_le h (Nat.pow_le_pow_right (n := 2) (by decide) (show 16 ≤ i by omega)))
    simp [hi, this]
end Go.Proofs.Ytnpibdjfafpegaa
