/- Texts that the walks of this seat lean on, put together. -/
import Derived.KernelRfl
import Derived.LoopTactic
import Derived.Handy
import Derived.Laws.BitsAllLaws
import Derived.Test.YthldpnifodbheaaTk
import Derived.Test.YthldpnifodbheaaTl
import Derived.Test.YthldpnifodbheaaM14
import Derived.Test.YthldpnifodbheaaM16
namespace Go.Proofs.Ythldpnifodbheaa
def o1 (x : Nat) : Nat := (x / 2).land 6148914691236517205 + x.land 6148914691236517205
def o2 (x : Nat) : Nat := (x / 4).land 3689348814741910323 + x.land 3689348814741910323
def o3 (x : Nat) : Nat := (x / 16 + x).land 1085102592571150095
def o4 (x : Nat) : Nat := x + x / 256
def o5 (x : Nat) : Nat := x + x / 65536
def o6 (x : Nat) : Nat := x + x / 4294967296
def onesN (x : Nat) : Nat := (o6 (o5 (o4 (o3 (o2 (o1 x)))))).land 127
def chkP (x : Nat) : Bool := Nat.beq (onesN x) 1 == Nat.beq (x.land (x - 1)) 0 || Nat.beq x 0
def allP : Nat → Nat → Bool
  | 0, b => chkP b
  | d + 1, b => allP d (2 * b) && allP d (2 * b + 1)
set_option maxRecDepth 100000 in
theorem allP_all : ∀ d b, allP d b = true → ∀ n, n / 2 ^ d = b → chkP n = true
  | 0, b, h, n, hn => by
    rw [Nat.pow_zero, Nat.div_one] at hn; subst hn; exact h
  | d + 1, b, h, n, hn => by
    unfold allP at h
    rw [Bool.and_eq_true] at h
    have e : n / 2 ^ d / 2 = b := by rw [Nat.div_div_eq_div_mul, ← Nat.pow_succ]; exact hn
    have : n / 2 ^ d = 2 * b ∨ n / 2 ^ d = 2 * b + 1 := by omega
    rcases this with q | q
    · exact allP_all d _ h.1 n q
    · exact allP_all d _ h.2 n q
set_option maxRecDepth 100000 in
theorem p16 : allP 16 0 = true := by kernel_rfl
set_option maxRecDepth 100000 in
theorem p16e : chkP 65536 = true := by kernel_rfl
set_option maxRecDepth 100000 in
theorem beq_dec (a b : Nat) : Nat.beq a b = decide (a = b) := by
  rw [Bool.eq_iff_iff, Nat.beq_eq, decide_eq_true_iff]
set_option maxRecDepth 100000 in
theorem ones_power (n : Nat) (h0 : 0 < n) (h : n ≤ 65536) : decide (onesN n = 1) = decide (n &&& (n - 1) = 0) := by
  have q : chkP n = true := by
    by_cases e : n = 65536
    · rw [e]; exact p16e
    · exact allP_all 16 0 p16 n (Nat.div_eq_of_lt (show n < 2 ^ 16 by show n < 65536; omega))
  unfold chkP at q
  rw [beq_dec, beq_dec, beq_dec, decide_eq_false (show ¬ n = 0 by omega), Bool.or_false, beq_iff_eq] at q
  exact q
set_option maxRecDepth 100000 in
theorem land_le (a b : Nat) : a.land b ≤ a := Nat.and_le_left (n := a) (m := b)
set_option maxRecDepth 100000 in
theorem ones_lt (x : Nat) (h : x ≤ 65536) : o1 x ≤ 131072 ∧ o2 (o1 x) ≤ 262144 ∧ o3 (o2 (o1 x)) ≤ 524288 ∧ o4 (o3 (o2 (o1 x))) ≤ 1048576 ∧ o5 (o4 (o3 (o2 (o1 x)))) ≤ 2097152 ∧ o6 (o5 (o4 (o3 (o2 (o1 x))))) ≤ 4194304 := by
  have h1 : o1 x ≤ 131072 := by
    unfold o1
    have := land_le (x / 2) 6148914691236517205
    have := land_le x 6148914691236517205
    omega
  have h2 : o2 (o1 x) ≤ 262144 := by
    unfold o2
    have := land_le (o1 x / 4) 3689348814741910323
    have := land_le (o1 x) 3689348814741910323
    omega
  have h3 : o3 (o2 (o1 x)) ≤ 524288 := by
    unfold o3
    have := land_le (o2 (o1 x) / 16 + o2 (o1 x)) 1085102592571150095
    omega
  have h4 : o4 (o3 (o2 (o1 x))) ≤ 1048576 := by unfold o4; omega
  have h5 : o5 (o4 (o3 (o2 (o1 x)))) ≤ 2097152 := by unfold o5; omega
  have h6 : o6 (o5 (o4 (o3 (o2 (o1 x))))) ≤ 4194304 := by unfold o6; omega
  exact ⟨h1, h2, h3, h4, h5, h6⟩
def hold (b : Int × Int × Int × Bool) : Bool := wi b.1 b.2.1 b.2.2.1 && (!b.2.2.2 || decide (onesN b.1.toNat = 1))
def bnds (c : Cf) : List (Int × Int × Int × Bool) :=
  [(c.st, 1, 4, false), (c.sz, 2, 1024, true), (c.dg, 1, 16, false), (c.bl, 8, 65536, true), (c.hs, 1, 4, false), (c.sl, 1, 64, false), (c.vs, 2, 16, false), (c.qu, 1, 256, false), (c.ev, 1, 64, false), (c.id, 1, 1000, false), (c.li, 1, 1000, false), (c.fa, 1, 10, false)]
set_option maxRecDepth 100000 in
theorem hold_pw (n lo hi : Int) (h1 : 1 ≤ lo) (h2 : hi ≤ 65536) : hold (n, lo, hi, true) = pw n lo hi := by
  unfold hold pw
  cases h : wi n lo hi with
  | false => rfl
  | true =>
    unfold wi at h
    simp only [Bool.and_eq_true, decide_eq_true_iff] at h
    simp only [Bool.not_true, Bool.false_or, Bool.true_and]
    exact ones_power n.toNat (by omega) (by omega)
set_option maxRecDepth 100000 in
theorem hold_wi (n lo hi : Int) : hold (n, lo, hi, false) = wi n lo hi := by unfold hold; simp
set_option maxRecDepth 100000 in
theorem okC_bnds (c : Cf) : okC c = ((bnds c).all hold && okO c) := by
  unfold bnds okC
  simp only [List.all_cons, List.all_nil, hold_wi, hold_pw _ _ _ (show (1 : Int) ≤ 2 by decide) (show (1024 : Int) ≤ 65536 by decide), hold_pw _ _ _ (show (1 : Int) ≤ 8 by decide) (show (65536 : Int) ≤ 65536 by decide), Bool.and_true, Bool.and_assoc]
end Go.Proofs.Ythldpnifodbheaa
namespace Go.Proofs.Ythldpnifodbheaa
open Go.RowKit Go.Lib
set_option maxRecDepth 100000 in
theorem and_i64 (a b : Nat) (ha : a < 9223372036854775808) (hb : b < 9223372036854775808) : bits .and .i64 (a : Int) (b : Int) = ((a &&& b : Nat) : Int) := by
  have key : (BitVec.ofInt 64 (a : Int) &&& BitVec.ofInt 64 (b : Int)).toNat = a &&& b := by rw [BitVec.toNat_and, ofInt_u64 a (by omega), ofInt_u64 b (by omega)]
  have hl : a &&& b < 9223372036854775808 := Nat.lt_of_le_of_lt Nat.and_le_left ha
  show IntKind.i64.wrap ((BitVec.ofInt 64 (a : Int) &&& BitVec.ofInt 64 (b : Int)).toNat : Nat) = _
  rw [key, IntKind.wrap_i64]
  omega
set_option maxRecDepth 100000 in
theorem u64_land (a b : Nat) (ha : a < 18446744073709551616) (hb : b < 18446744073709551616) : bits .and .u64 (a : Int) (b : Int) = ((a.land b : Nat) : Int) := u64_and_nat a b ha hb
set_option maxRecDepth 100000 in
theorem ow1 (x : Nat) (h : o1 x ≤ 131072) : IntKind.u64.wrap (((x / 2).land 6148914691236517205 : Nat) + ((x.land 6148914691236517205 : Nat) : Int)) = ((o1 x : Nat) : Int) := by
  rw [IntKind.wrap_u64]; unfold o1 at *; omega
set_option maxRecDepth 100000 in
theorem ow2 (x : Nat) (h : o2 x ≤ 262144) : IntKind.u64.wrap (((x / 4).land 3689348814741910323 : Nat) + ((x.land 3689348814741910323 : Nat) : Int)) = ((o2 x : Nat) : Int) := by
  rw [IntKind.wrap_u64]; unfold o2 at *; omega
set_option maxRecDepth 100000 in
theorem ow4 (x : Nat) (h : x ≤ 4194304) (d : Nat) : IntKind.u64.wrap ((x : Int) + ((x / d : Nat) : Int)) = ((x + x / d : Nat) : Int) := by
  have := Nat.div_le_self x d
  generalize x / d = y at *
  rw [IntKind.wrap_u64]; omega
set_option maxRecDepth 100000 in
set_option maxHeartbeats 400000 in
theorem ones64_any (x : Nat) (h : x ≤ 65536) (w : World) : Calls Try.prog 92 #[.int .u64 (x : Int)] w fun e w' => e = .returned (.int .i64 ((onesN x : Nat) : Int)) ∧ w = w' := by
  obtain ⟨h1, h2, h3, h4, h5, h6⟩ := ones_lt x h
  have A1 := lh (show bits .and .u64 ((x / 2 : Nat) : Int) 6148914691236517205 = (((x / 2).land 6148914691236517205 : Nat) : Int) from u64_land (x / 2) 6148914691236517205 (by omega) (by decide))
  have A2 := lh (show bits .and .u64 (x : Int) 6148914691236517205 = ((x.land 6148914691236517205 : Nat) : Int) from u64_land x 6148914691236517205 (by omega) (by decide))
  have E1 := lh (ow1 x h1)
  have B1 := lh (show bits .and .u64 ((o1 x / 4 : Nat) : Int) 3689348814741910323 = (((o1 x / 4).land 3689348814741910323 : Nat) : Int) from u64_land (o1 x / 4) 3689348814741910323 (by omega) (by decide))
  have B2 := lh (show bits .and .u64 ((o1 x : Nat) : Int) 3689348814741910323 = (((o1 x).land 3689348814741910323 : Nat) : Int) from u64_land (o1 x) 3689348814741910323 (by omega) (by decide))
  have E2 := lh (ow2 (o1 x) h2)
  have D2 := lh (show IntKind.u64.wrap (((o2 (o1 x)) / 16 : Nat) + ((o2 (o1 x) : Nat) : Int)) = ((o2 (o1 x) / 16 + o2 (o1 x) : Nat) : Int) from by rw [IntKind.wrap_u64]; omega)
  have C1 := lh (show bits .and .u64 ((o2 (o1 x) / 16 + o2 (o1 x) : Nat) : Int) 1085102592571150095 = ((o3 (o2 (o1 x)) : Nat) : Int) from u64_land (o2 (o1 x) / 16 + o2 (o1 x)) 1085102592571150095 (by omega) (by decide))
  have F4 := lh (show IntKind.u64.wrap _ = ((o4 (o3 (o2 (o1 x))) : Nat) : Int) from ow4 (o3 (o2 (o1 x))) (by omega) 256)
  have F5 := lh (show IntKind.u64.wrap _ = ((o5 (o4 (o3 (o2 (o1 x)))) : Nat) : Int) from ow4 (o4 (o3 (o2 (o1 x)))) (by omega) 65536)
  have F6 := lh (show IntKind.u64.wrap _ = ((o6 (o5 (o4 (o3 (o2 (o1 x))))) : Nat) : Int) from ow4 (o5 (o4 (o3 (o2 (o1 x))))) (by omega) 4294967296)
  have G1 := lh (show bits .and .i64 ((o6 (o5 (o4 (o3 (o2 (o1 x))))) : Nat) : Int) 127 = ((onesN x : Nat) : Int) from and_i64 _ 127 (by omega) (by decide))
  have G0 := lh (show IntKind.i64.wrap ((o6 (o5 (o4 (o3 (o2 (o1 x))))) : Nat) : Int) = ((o6 (o5 (o4 (o3 (o2 (o1 x))))) : Nat) : Int) from by rw [IntKind.wrap_i64]; omega)
  have d1 : (x : Int) / 2 = ((x / 2 : Nat) : Int) := by omega
  have d2 : ((o1 x : Nat) : Int) / 4 = ((o1 x / 4 : Nat) : Int) := by omega
  have d3 : ((o2 (o1 x) : Nat) : Int) / 16 = ((o2 (o1 x) / 16 : Nat) : Int) := by omega
  have d4 : ((o3 (o2 (o1 x)) : Nat) : Int) / 256 = ((o3 (o2 (o1 x)) / 256 : Nat) : Int) := by omega
  have d5 : ((o4 (o3 (o2 (o1 x))) : Nat) : Int) / 65536 = ((o4 (o3 (o2 (o1 x))) / 65536 : Nat) : Int) := by omega
  have d6 : ((o5 (o4 (o3 (o2 (o1 x)))) : Nat) : Int) / 4294967296 = ((o5 (o4 (o3 (o2 (o1 x)))) / 4294967296 : Nat) : Int) := by omega
  generalize onesN x = z at *
  generalize o6 (o5 (o4 (o3 (o2 (o1 x))))) = x6 at *
  generalize o5 (o4 (o3 (o2 (o1 x)))) = x5 at *
  generalize o4 (o3 (o2 (o1 x))) = x4 at *
  generalize o3 (o2 (o1 x)) = x3 at *
  generalize o2 (o1 x) = x2 at *
  generalize o1 x = x1 at *
  generalize (x / 2).land 6148914691236517205 = a1 at *
  generalize x.land 6148914691236517205 = a2 at *
  generalize (x1 / 4).land 3689348814741910323 = b1 at *
  generalize x1.land 3689348814741910323 = b2 at *
  generalize x / 2 = xa at *
  generalize x1 / 4 = xb at *
  generalize x2 / 16 + x2 = xc at *
  generalize x2 / 16 = xd at *
  generalize x3 / 256 = xe at *
  generalize x4 / 65536 = xf at *
  generalize x5 / 4294967296 = xg at *
  have D1 := lh d1
  have D3 := lh d3
  clear h1 h2 h3 h4 h5 h6 h
  have a1' := A1.out
  have a2' := A2.out
  have e1' := E1.out
  have b1' := B1.out
  have b2' := B2.out
  have e2' := E2.out
  have c1' := C1.out
  have c2' := D2.out
  have f4' := F4.out
  have f5' := F5.out
  have f6' := F6.out
  have g0' := G0.out
  have g1' := G1.out
  go_enter Try.func92, Try.ntmps92
  go_wp2
  go_ret
  exact ⟨rfl, rfl⟩
set_option maxRecDepth 100000 in
set_option maxHeartbeats 400000 in
theorem ones_any (x : Nat) (h : x ≤ 65536) (w : World) : Calls Try.prog 84 #[.int .u64 (x : Int)] w fun e w' => e = .returned (.int .i64 ((onesN x : Nat) : Int)) ∧ w = w' := by
  have C := lh (fun W => ones64_any x h W)
  go_enter Try.func84, Try.ntmps84
  go_wp2_with fail
  refine (C.out _).mono ?_
  rintro e w' ⟨rfl, rfl⟩
  go_wp2
  go_ret
  exact ⟨rfl, rfl⟩
def bcs (b : Int × Int × Int × Bool) : Array Value := #[.int .i64 b.1, .int .i64 b.2.1, .int .i64 b.2.2.1, .bool b.2.2.2]
set_option maxRecDepth 100000 in
set_option maxHeartbeats 400000 in
theorem holds_any (b : Int × Int × Int × Bool) (hb : b.2.2.2 = true → 1 ≤ b.2.1 ∧ b.2.2.1 ≤ 65536) (w : World) : Calls Try.prog 70 #[.agg (bcs b)] w fun e w' => e = .returned (.bool (hold b)) ∧ Below w.heap.size w w' := by
  obtain ⟨n, lo, hi, p⟩ := b
  simp only at hb
  unfold bcs
  simp only
  have K := lh ((Below.refl w.heap.size w).alloc (Nat.le_refl _) (.cells #[.int .i64 n, .int .i64 lo, .int .i64 hi, .bool p] 147))
  by_cases h1 : n < lo
  · have e : hold (n, lo, hi, p) = false := by unfold hold wi; simp only; rw [decide_eq_false (show ¬ n ≥ lo by omega)]; rfl
    rw [e]
    have d1 : decide (n < lo) = true := decide_eq_true h1
    clear h1 hb e
    go_enter Try.func70, Try.ntmps70
    go_wp2
    go_ret
    exact ⟨rfl, K.out⟩
  by_cases h2 : n > hi
  · have e : hold (n, lo, hi, p) = false := by unfold hold wi; simp only; rw [decide_eq_false (show ¬ n ≤ hi by omega), Bool.and_false]; rfl
    rw [e]
    have d1 : decide (n < lo) = false := decide_eq_false h1
    have d2 : decide (n > hi) = true := decide_eq_true h2
    clear h1 h2 hb e
    go_enter Try.func70, Try.ntmps70
    go_wp2
    go_ret
    exact ⟨rfl, K.out⟩
  have d1 : decide (n < lo) = false := decide_eq_false h1
  have d2 : decide (n > hi) = false := decide_eq_false h2
  have e : hold (n, lo, hi, p) = (!p || decide (onesN n.toNat = 1)) := by unfold hold wi; simp only; rw [decide_eq_true (show n ≥ lo by omega), decide_eq_true (show n ≤ hi by omega)]; rfl
  rw [e]
  cases p with
  | false =>
    clear h1 h2 hb e
    go_enter Try.func70, Try.ntmps70
    go_wp2
    go_ret
    exact ⟨rfl, K.out⟩
  | true =>
    obtain ⟨b1, b2⟩ := hb rfl
    obtain ⟨m, rfl⟩ : ∃ m : Nat, n = (m : Int) := ⟨n.toNat, by omega⟩
    rw [Int.toNat_natCast]
    have C := lh (fun W => ones_any m (by omega) W)
    have w1 : IntKind.u64.wrap (m : Int) = (m : Int) := by rw [IntKind.wrap_u64]; omega
    generalize onesN m = q at *
    have d3 : ((q : Int) == 1) = decide (q = 1) := by rw [Bool.eq_iff_iff, beq_iff_eq, decide_eq_true_iff]; omega
    generalize decide (q = 1) = r at *
    clear h1 h2 hb e b1 b2
    go_enter Try.func70, Try.ntmps70
    go_wp2_with fail
    refine (C.out _).mono ?_
    rintro e w' ⟨rfl, rfl⟩
    go_wp2
    go_ret
    exact ⟨rfl, K.out⟩
set_option maxRecDepth 100000 in
theorem mul_u32 (a b : Nat) : IntKind.u32.wrap ((a : Int) * (b : Int)) = ((a * b % 4294967296 : Nat) : Int) := by
  rw [IntKind.wrap_u32, ← Int.natCast_mul]
  generalize a * b = q
  omega
set_option maxRecDepth 100000 in
set_option maxHeartbeats 400000 in
theorem mix_any (x : Nat) (h : x < 4294967296) (w : World) : Calls Try.prog 85 #[.int .u32 (x : Int)] w fun e w' => e = .returned (.int .u32 ((mixN x : Nat) : Int)) ∧ w = w' := by
  have l1 : mx1 x < 4294967296 := Nat.xor_lt_two_pow (n := 32) h (by omega)
  have l2 : mx2 x < 4294967296 := Nat.mod_lt _ (by decide)
  have l3 : mx3 x < 4294967296 := Nat.xor_lt_two_pow (n := 32) l2 (by omega)
  have l4 : mx4 x < 4294967296 := Nat.mod_lt _ (by decide)
  have x1 : bits .xor .u32 (x : Int) ((x / 65536 : Nat) : Int) = ((mx1 x : Nat) : Int) := xor_u32 x (x / 65536) h (by omega)
  have m1 : IntKind.u32.wrap (((mx1 x : Nat) : Int) * 2146121005) = ((mx2 x : Nat) : Int) := mul_u32 (mx1 x) 2146121005
  have x2 : bits .xor .u32 ((mx2 x : Nat) : Int) ((mx2 x / 32768 : Nat) : Int) = ((mx3 x : Nat) : Int) := xor_u32 (mx2 x) (mx2 x / 32768) l2 (by omega)
  have m2 : IntKind.u32.wrap (((mx3 x : Nat) : Int) * 2221713035) = ((mx4 x : Nat) : Int) := mul_u32 (mx3 x) 2221713035
  have x3 : bits .xor .u32 ((mx4 x : Nat) : Int) ((mx4 x / 65536 : Nat) : Int) = ((mixN x : Nat) : Int) := xor_u32 (mx4 x) (mx4 x / 65536) l4 (by omega)
  have d1 : (x : Int) / 65536 = ((x / 65536 : Nat) : Int) := by omega
  have d2 : ((mx2 x : Nat) : Int) / 32768 = ((mx2 x / 32768 : Nat) : Int) := by omega
  have d3 : ((mx4 x : Nat) : Int) / 65536 = ((mx4 x / 65536 : Nat) : Int) := by omega
  clear l1 l2 l3 l4 h
  generalize mixN x = y5 at *
  generalize mx4 x = y4 at *
  generalize mx3 x = y3 at *
  generalize mx2 x = y2 at *
  generalize mx1 x = y1 at *
  generalize x / 65536 = z1 at *
  generalize y2 / 32768 = z2 at *
  generalize y4 / 65536 = z3 at *
  go_enter Try.func85, Try.ntmps85
  go_wp2
  go_ret
  exact ⟨rfl, rfl⟩
set_option maxRecDepth 100000 in
set_option maxHeartbeats 400000 in
theorem rmix_any (x : Nat) (h : x < 4294967296) (w : World) : Calls Try.prog 56 #[.int .u32 (x : Int)] w fun e w' => e = .returned (.int .u32 ((mixN x : Nat) : Int)) ∧ w = w' := by
  have l1 : mx1 x < 4294967296 := Nat.xor_lt_two_pow (n := 32) h (by omega)
  have l2 : mx2 x < 4294967296 := Nat.mod_lt _ (by decide)
  have l3 : mx3 x < 4294967296 := Nat.xor_lt_two_pow (n := 32) l2 (by omega)
  have l4 : mx4 x < 4294967296 := Nat.mod_lt _ (by decide)
  have x1 : bits .xor .u32 (x : Int) ((x / 65536 : Nat) : Int) = ((mx1 x : Nat) : Int) := xor_u32 x (x / 65536) h (by omega)
  have m1 : IntKind.u32.wrap (((mx1 x : Nat) : Int) * 2146121005) = ((mx2 x : Nat) : Int) := mul_u32 (mx1 x) 2146121005
  have x2 : bits .xor .u32 ((mx2 x : Nat) : Int) ((mx2 x / 32768 : Nat) : Int) = ((mx3 x : Nat) : Int) := xor_u32 (mx2 x) (mx2 x / 32768) l2 (by omega)
  have m2 : IntKind.u32.wrap (((mx3 x : Nat) : Int) * 2221713035) = ((mx4 x : Nat) : Int) := mul_u32 (mx3 x) 2221713035
  have x3 : bits .xor .u32 ((mx4 x : Nat) : Int) ((mx4 x / 65536 : Nat) : Int) = ((mixN x : Nat) : Int) := xor_u32 (mx4 x) (mx4 x / 65536) l4 (by omega)
  have d1 : (x : Int) / 65536 = ((x / 65536 : Nat) : Int) := by omega
  have d2 : ((mx2 x : Nat) : Int) / 32768 = ((mx2 x / 32768 : Nat) : Int) := by omega
  have d3 : ((mx4 x : Nat) : Int) / 65536 = ((mx4 x / 65536 : Nat) : Int) := by omega
  clear l1 l2 l3 l4 h
  generalize mixN x = y5 at *
  generalize mx4 x = y4 at *
  generalize mx3 x = y3 at *
  generalize mx2 x = y2 at *
  generalize mx1 x = y1 at *
  generalize x / 65536 = z1 at *
  generalize y2 / 32768 = z2 at *
  generalize y4 / 65536 = z3 at *
  go_enter Try.func56, Try.ntmps56
  go_wp2
  go_ret
  exact ⟨rfl, rfl⟩
end Go.Proofs.Ythldpnifodbheaa
