/- The contract of bazaarref1.Be16: two bytes, as a number. -/
import Derived.Test.YthbkboheeelbiaaRow
import Derived.Test.YthbkboheeelbiaaU8
import Derived.WalkKit
import Derived.WalkSmall
import Derived.Lib.QuietBelow
namespace Go.Proofs.Ythbkboheeelbiaa
open Go.RowKit

theorem or_i64 (x y : Nat) (hx : x < 4294967296) (hy : y < 4294967296) : bits .or .i64 (x : Int) (y : Int) = ((x ||| y : Nat) : Int) := by
  have key : (BitVec.ofInt 64 (x : Int) ||| BitVec.ofInt 64 (y : Int)).toNat = x ||| y := by
    rw [BitVec.toNat_or, BitVec.toNat_ofInt, BitVec.toNat_ofInt]
    congr 1 <;> omega
  have hl : x ||| y < 4294967296 := Nat.or_lt_two_pow (n := 32) hx hy
  show IntKind.i64.wrap ((BitVec.ofInt 64 (x : Int) ||| BitVec.ofInt 64 (y : Int)).toNat : Nat) = _
  rw [key, IntKind.wrap_i64]
  omega
theorem be_or (p q : Nat) (hp : p < 256) (hq : q < 256) : bits .or .i64 ((p : Int) * 256) (q : Int) = ((p * 256 + q : Nat) : Int) := by
  have e : (p : Int) * 256 = ((p * 256 : Nat) : Int) := by omega
  rw [e, or_i64 _ _ (by omega) (by omega), nat_join 8 (p * 256) q (by omega) (by omega)]
set_option maxRecDepth 100000 in
set_option maxHeartbeats 1000000 in
theorem be16_any (a : Option Addr) (len cap : Nat) (k : Nat) (zs : List Nat) (w : World) (hr : Rd w (.slice a len cap) (nus .u8 zs)) (hb : ∀ c ∈ zs, c < 256) (hk : k + 2 ≤ zs.length) :
    Calls Try.prog 15 #[.slice a len cap, .int .i64 (k : Int)] w fun e w' => e = .returned (.int .i64 ((zs.getD k 0 * 256 + zs.getD (k + 1) 0 : Nat) : Int)) ∧ ∃ n, w' = w.drewN n := by
  obtain ⟨a', c', e, h1, h2, h3⟩ := hr
  simp only [Value.slice.injEq, nus_length] at e
  obtain ⟨rfl, rfl, rfl⟩ := e
  rw [nus_length] at h1 h3
  unfold maxLen at h2
  rcases h3 with h3 | ⟨b, off, rfl, hbs, hc⟩
  · have : zs.length = 0 := by rw [(nus_nil _ _).1 h3]; rfl
    omega
  have c1 := hc k (by omega)
  have c2 := hc (k + 1) (by omega)
  rw [nus_get _ _ _ (by omega)] at c1 c2
  have hp := getD_lt zs hb k
  have hq := getD_lt zs hb (k + 1)
  obtain ⟨p, hpe⟩ : ∃ p, p = zs.getD k 0 := ⟨_, rfl⟩
  obtain ⟨q, hqe⟩ : ∃ q, q = zs.getD (k + 1) 0 := ⟨_, rfl⟩
  obtain ⟨len, hle⟩ : ∃ n, n = zs.length := ⟨_, rfl⟩
  rw [← hpe] at c1 hp ⊢
  rw [← hqe] at c2 hq ⊢
  rw [← hle] at h1 hk ⊢
  have HO := Lib.hid (be_or p q hp hq)
  have hk1 : k < len := by omega
  have hk2 : k + 1 < len := by omega
  have hkw : IntKind.i64.wrap ((k : Int) + 1) = (k : Int) + 1 := by rw [IntKind.wrap_i64]; omega
  have hpw : IntKind.i64.wrap (p : Int) = (p : Int) := by rw [IntKind.wrap_i64]; omega
  have hpw2 : IntKind.i64.wrap ((p : Int) * 256) = (p : Int) * 256 := by rw [IntKind.wrap_i64]; omega
  have hqw : IntKind.i64.wrap (q : Int) = (q : Int) := by rw [IntKind.wrap_i64]; omega
  have hki : (0 : Int) ≤ (k : Int) + 1 ∧ (k : Int) + 1 < (len : Int) := by omega
  have hkt : ((k : Int) + 1).toNat = k + 1 := by omega
  clear hc hbs hb hpe hqe hle
  go_enter Try.func15, Try.ntmps15
  go_wp2
  go_quiet (fail)
  go_wp2
  go_ret
  exact ⟨ret_int HO.out, _, rfl⟩
end Go.Proofs.Ythbkboheeelbiaa
