/- Texts that the walks of this seat lean on, put together. -/
import Derived.KernelRfl
import Derived.Test.YtcgaibkpdihncaaDoorTk
import Derived.Test.YtcgaibkpdihncaaDoorM17
namespace Go.Proofs.YtcgaibkpdihncaaDoor
def o1 (x : Nat) : Nat := (x / 2).land 6148914691236517205 + x.land 6148914691236517205
def o2 (x : Nat) : Nat := (x / 4).land 3689348814741910323 + x.land 3689348814741910323
def o3 (x : Nat) : Nat := (x / 16 + x).land 1085102592571150095
def o4 (x : Nat) : Nat := x + x / 256
def o5 (x : Nat) : Nat := x + x / 65536
def o6 (x : Nat) : Nat := x + x / 4294967296
def onesN (x : Nat) : Nat := (o6 (o5 (o4 (o3 (o2 (o1 x)))))).land 127
def chkP (x : Nat) : Bool := Nat.beq (onesN x) 1 == Nat.beq (x.land (x - 1)) 0 || Nat.beq x 0
def allP : Nat → Nat → Bool
  | 0, b => chkP b
  | d + 1, b => allP d (2 * b) && allP d (2 * b + 1)
theorem allP_all : ∀ d b, allP d b = true → ∀ n, n / 2 ^ d = b → chkP n = true
  | 0, b, h, n, hn => by
    rw [Nat.pow_zero, Nat.div_one] at hn; subst hn; exact h
  | d + 1, b, h, n, hn => by
    unfold allP at h
    rw [Bool.and_eq_true] at h
    have e : n / 2 ^ d / 2 = b := by rw [Nat.div_div_eq_div_mul, ← Nat.pow_succ]; exact hn
    have : n / 2 ^ d = 2 * b ∨ n / 2 ^ d = 2 * b + 1 := by omega
    rcases this with q | q
    · exact allP_all d _ h.1 n q
    · exact allP_all d _ h.2 n q
set_option maxRecDepth 100000 in
theorem p16 : allP 16 0 = true := by kernel_rfl
set_option maxRecDepth 100000 in
theorem p16e : chkP 65536 = true := by kernel_rfl
theorem beq_dec (a b : Nat) : Nat.beq a b = decide (a = b) := by
  rw [Bool.eq_iff_iff, Nat.beq_eq, decide_eq_true_iff]
theorem ones_power (n : Nat) (h0 : 0 < n) (h : n ≤ 65536) : decide (onesN n = 1) = decide (n &&& (n - 1) = 0) := by
  have q : chkP n = true := by
    by_cases e : n = 65536
    · rw [e]; exact p16e
    · exact allP_all 16 0 p16 n (Nat.div_eq_of_lt (show n < 2 ^ 16 by show n < 65536; omega))
  unfold chkP at q
  rw [beq_dec, beq_dec, beq_dec, decide_eq_false (show ¬ n = 0 by omega), Bool.or_false, beq_iff_eq] at q
  exact q
theorem land_le (a b : Nat) : a.land b ≤ a := Nat.and_le_left (n := a) (m := b)
theorem ones_lt (x : Nat) (h : x ≤ 65536) : o1 x ≤ 131072 ∧ o2 (o1 x) ≤ 262144 ∧ o3 (o2 (o1 x)) ≤ 524288 ∧ o4 (o3 (o2 (o1 x))) ≤ 1048576 ∧ o5 (o4 (o3 (o2 (o1 x)))) ≤ 2097152 ∧ o6 (o5 (o4 (o3 (o2 (o1 x))))) ≤ 4194304 := by
  have h1 : o1 x ≤ 131072 := by
    unfold o1
    have := land_le (x / 2) 6148914691236517205
    have := land_le x 6148914691236517205
    omega
  have h2 : o2 (o1 x) ≤ 262144 := by
    unfold o2
    have := land_le (o1 x / 4) 3689348814741910323
    have := land_le (o1 x) 3689348814741910323
    omega
  have h3 : o3 (o2 (o1 x)) ≤ 524288 := by
    unfold o3
    have := land_le (o2 (o1 x) / 16 + o2 (o1 x)) 1085102592571150095
    omega
  have h4 : o4 (o3 (o2 (o1 x))) ≤ 1048576 := by unfold o4; omega
  have h5 : o5 (o4 (o3 (o2 (o1 x)))) ≤ 2097152 := by unfold o5; omega
  have h6 : o6 (o5 (o4 (o3 (o2 (o1 x))))) ≤ 4194304 := by unfold o6; omega
  exact ⟨h1, h2, h3, h4, h5, h6⟩
def hold (b : Int × Int × Int × Bool) : Bool := wi b.1 b.2.1 b.2.2.1 && (!b.2.2.2 || decide (onesN b.1.toNat = 1))
def bnds (c : Cf) : List (Int × Int × Int × Bool) :=
  [(c.st, 1, 4, false), (c.sz, 2, 1024, true), (c.dg, 1, 16, false), (c.bl, 8, 65536, true), (c.hs, 1, 4, false), (c.sl, 1, 64, false), (c.vs, 2, 16, false), (c.qu, 1, 256, false), (c.ev, 1, 64, false), (c.id, 1, 1000, false), (c.li, 1, 1000, false), (c.fa, 1, 10, false)]
theorem hold_pw (n lo hi : Int) (h1 : 1 ≤ lo) (h2 : hi ≤ 65536) : hold (n, lo, hi, true) = pw n lo hi := by
  unfold hold pw
  cases h : wi n lo hi with
  | false => rfl
  | true =>
    unfold wi at h
    simp only [Bool.and_eq_true, decide_eq_true_iff] at h
    simp only [Bool.not_true, Bool.false_or, Bool.true_and]
    exact ones_power n.toNat (by omega) (by omega)
theorem hold_wi (n lo hi : Int) : hold (n, lo, hi, false) = wi n lo hi := by unfold hold; simp
theorem okC_bnds (c : Cf) : okC c = ((bnds c).all hold && okO c) := by
  unfold bnds okC
  simp only [List.all_cons, List.all_nil, hold_wi, hold_pw _ _ _ (show (1 : Int) ≤ 2 by decide) (show (1024 : Int) ≤ 65536 by decide), hold_pw _ _ _ (show (1 : Int) ≤ 8 by decide) (show (65536 : Int) ≤ 65536 by decide), Bool.and_true, Bool.and_assoc]
end Go.Proofs.YtcgaibkpdihncaaDoor
