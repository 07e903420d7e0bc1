/- Texts that the walks of this seat lean on, put together. -/
import Derived.Test.YtblkpnjmmdbgnaaTk
import Derived.Test.YtblkpnjmmdbgnaaM02
namespace Go.Proofs.Ytblkpnjmmdbgnaa
def stp (p r : Nat) : Nat := if r % 2 = 1 then r / 2 ^^^ p else r / 2
def stpN (p : Nat) : Nat → Nat → Nat
  | 0, r => r
  | n + 1, r => stpN p n (stp p r)
def tabC (p n : Nat) : Nat := stpN p 8 n
def byB (p r c : Nat) : Nat := stpN p 8 (r ^^^ c)
def byT (p r c : Nat) : Nat := r / 256 ^^^ tabC p ((r ^^^ c) % 256)
def ones : Nat := 4294967295
def regC (p r : Nat) (b : List Nat) : Nat := b.foldl (byB p) r
def crcC (p s : Nat) (b : List Nat) : Nat := regC p (s ^^^ ones) b ^^^ ones
set_option maxRecDepth 100000 in
theorem xor_div2 (a b : Nat) : (a ^^^ b) / 2 = a / 2 ^^^ b / 2 := by
  have := Nat.shiftRight_xor_distrib (a := a) (b := b) (i := 1)
  simpa [Nat.shiftRight_eq_div_pow] using this
set_option maxRecDepth 100000 in
theorem xor_mod2 (a b : Nat) : (a ^^^ b) % 2 = (a % 2 + b % 2) % 2 := by
  have h := Nat.testBit_xor a b 0
  rw [Nat.testBit_zero, Nat.testBit_zero, Nat.testBit_zero] at h
  have ha : a % 2 = 0 ∨ a % 2 = 1 := by omega
  have hb : b % 2 = 0 ∨ b % 2 = 1 := by omega
  have hc : (a ^^^ b) % 2 = 0 ∨ (a ^^^ b) % 2 = 1 := by omega
  rcases ha with ha | ha <;> rcases hb with hb | hb <;> rcases hc with hc | hc <;> simp [ha, hb, hc] at h ⊢
set_option maxRecDepth 100000 in
theorem stp_xor (p a b : Nat) : stp p (a ^^^ b) = stp p a ^^^ stp p b := by
  unfold stp
  rw [xor_div2, xor_mod2]
  have ha : a % 2 = 0 ∨ a % 2 = 1 := by omega
  have hb : b % 2 = 0 ∨ b % 2 = 1 := by omega
  rcases ha with ha | ha <;> rcases hb with hb | hb <;> simp only [ha, hb] <;> simp
  · rw [Nat.xor_assoc]
  · rw [Nat.xor_assoc, Nat.xor_assoc, Nat.xor_comm p (b / 2)]
  · rw [Nat.xor_assoc, Nat.xor_comm p, Nat.xor_assoc, Nat.xor_self, Nat.xor_zero]
set_option maxRecDepth 100000 in
theorem stpN_xor (p : Nat) : ∀ n a b, stpN p n (a ^^^ b) = stpN p n a ^^^ stpN p n b
  | 0, _, _ => rfl
  | n + 1, a, b => by unfold stpN; rw [stp_xor, stpN_xor p n]
set_option maxRecDepth 100000 in
theorem stp_even (p r : Nat) : stp p (2 * r) = r := by unfold stp; rw [if_neg (by omega)]; omega
set_option maxRecDepth 100000 in
theorem stpN_even (p r : Nat) : ∀ n, stpN p n (2 ^ n * r) = r
  | 0 => by simp [stpN]
  | n + 1 => by
    unfold stpN
    rw [show 2 ^ (n + 1) * r = 2 * (2 ^ n * r) from by rw [Nat.pow_succ, Nat.mul_comm (2 ^ n) 2, Nat.mul_assoc], stp_even, stpN_even p r n]
set_option maxRecDepth 100000 in
theorem split8 (r : Nat) : (256 * (r / 256)) ^^^ (r % 256) = r := by
  have h : 256 * (r / 256) ^^^ r % 256 = 256 * (r / 256) + r % 256 := by
    have q := Nat.two_pow_add_eq_or_of_lt (i := 8) (b := r % 256) (by omega) (r / 256)
    have q2 : (2 ^ 8 * (r / 256)) &&& (r % 256) = 0 := by
      apply Nat.eq_of_testBit_eq
      intro j
      rw [Nat.testBit_and, Nat.zero_testBit, Nat.testBit_two_pow_mul]
      by_cases hj : 8 ≤ j
      · have : (r % 256).testBit j = false := Nat.testBit_lt_two_pow (Nat.lt_of_lt_of_le (Nat.mod_lt _ (by decide)) (Nat.pow_le_pow_right (n := 2) (by decide) hj))
        rw [this, Bool.and_false]
      · simp [hj]
    have q3 : (2 ^ 8 * (r / 256)) ^^^ (r % 256) = (2 ^ 8 * (r / 256)) ||| (r % 256) := by
      apply Nat.eq_of_testBit_eq
      intro j
      have e := congrArg (fun n => n.testBit j) q2
      simp only [Nat.testBit_and, Nat.zero_testBit] at e
      rw [Nat.testBit_xor, Nat.testBit_or]
      revert e
      cases (2 ^ 8 * (r / 256)).testBit j <;> cases (r % 256).testBit j <;> simp
    rw [show (256 : Nat) = 2 ^ 8 from rfl] at *
    rw [q3, ← q]
  rw [h]
  omega
set_option maxRecDepth 100000 in
theorem stp8 (p r : Nat) : stpN p 8 r = r / 256 ^^^ tabC p (r % 256) := by
  conv => lhs; rw [← split8 r]
  rw [stpN_xor]
  have := stpN_even p (r / 256) 8
  rw [show (2 : Nat) ^ 8 = 256 from rfl] at this
  rw [this]
  rfl
set_option maxRecDepth 100000 in
theorem xor_div256 (r c : Nat) (h : c < 256) : (r ^^^ c) / 256 = r / 256 := by
  have := Nat.shiftRight_xor_distrib (a := r) (b := c) (i := 8)
  simp only [Nat.shiftRight_eq_div_pow] at this
  rw [show (2 : Nat) ^ 8 = 256 from rfl] at this
  rw [this, Nat.div_eq_of_lt h, Nat.xor_zero]
set_option maxRecDepth 100000 in
theorem by_eq (p r c : Nat) (h : c < 256) : byT p r c = byB p r c := by
  unfold byT byB
  rw [stp8, xor_div256 r c h]
set_option maxRecDepth 100000 in
theorem stp_lt (p r : Nat) (hp : p < 4294967296) (hr : r < 4294967296) : stp p r < 4294967296 := by
  unfold stp
  split
  · exact Nat.xor_lt_two_pow (n := 32) (by omega) hp
  · omega
set_option maxRecDepth 100000 in
theorem stpN_lt (p : Nat) (hp : p < 4294967296) : ∀ n r, r < 4294967296 → stpN p n r < 4294967296
  | 0, _, h => h
  | n + 1, r, h => stpN_lt p hp n _ (stp_lt p r hp h)
set_option maxRecDepth 100000 in
theorem byB_lt (p r c : Nat) (hp : p < 4294967296) (hr : r < 4294967296) (hc : c < 256) : byB p r c < 4294967296 := stpN_lt p hp 8 _ (Nat.xor_lt_two_pow (n := 32) hr (by omega))
set_option maxRecDepth 100000 in
theorem regC_lt (p : Nat) (hp : p < 4294967296) : ∀ (b : List Nat) (r : Nat), r < 4294967296 → (∀ c ∈ b, c < 256) → regC p r b < 4294967296
  | [], _, h, _ => h
  | c :: b, r, h, hb => regC_lt p hp b _ (byB_lt p r c hp h (hb c (by simp))) (fun x hx => hb x (by simp [hx]))
set_option maxRecDepth 100000 in
theorem crcC_lt (p s : Nat) (b : List Nat) (hp : p < 4294967296) (hs : s < 4294967296) (hb : ∀ c ∈ b, c < 256) : crcC p s b < 4294967296 :=
  Nat.xor_lt_two_pow (n := 32) (regC_lt p hp b _ (Nat.xor_lt_two_pow (n := 32) hs (by decide)) hb) (by decide)
end Go.Proofs.Ytblkpnjmmdbgnaa
