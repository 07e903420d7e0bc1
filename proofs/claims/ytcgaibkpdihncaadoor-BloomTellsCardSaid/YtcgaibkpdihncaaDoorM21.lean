/- Texts that the walks of this seat lean on, put together. -/
import Derived.StillTailTactics
import Derived.Laws.BitsAllLaws
import Derived.Lib.LaidTab
import Derived.Lib.TrailingZeros
import Derived.Laws.Bits64b
import Derived.LoopTactic
import Derived.Handy
import Derived.Test.YtcgaibkpdihncaaDoorTk
import Derived.Test.YtcgaibkpdihncaaDoorM01
import Derived.Test.YtcgaibkpdihncaaDoorM18
import Derived.Test.YtcgaibkpdihncaaDoorM19
import Derived.Test.YtcgaibkpdihncaaDoorM20
namespace Go.Proofs.YtcgaibkpdihncaaDoor
def val : List Nat → Nat
  | [] => 0
  | b :: r => b + 256 * val r
def s1 (b : Nat) : Nat := (b / 2).land 85 + b.land 85
def s2 (b : Nat) : Nat := (b / 4).land 51 + b.land 51
def s3 (b : Nat) : Nat := (b / 16 + b).land 15
def pc8 (b : Nat) : Nat := (bitsL b 8).length
theorem s_all : ∀ b, b < 256 → s1 b < 256 ∧ s2 (s1 b) < 256 ∧ (s2 (s1 b)) % 16 ≤ 4 ∧ (s2 (s1 b)) / 16 ≤ 4 ∧ s3 (s2 (s1 b)) = pc8 b ∧ pc8 b ≤ 8 := by decide +kernel
theorem and85 : ∀ t, t < 2 → ∀ b, b < 256 → (b / 2 + 128 * t).land 85 = (b / 2).land 85 := by decide +kernel
theorem and51 : ∀ t, t < 4 → ∀ b, b < 256 → (b / 4 + 64 * t).land 51 = (b / 4).land 51 := by decide +kernel
theorem and15 : ∀ t, t < 16 → ∀ b, b < 256 → (b / 16 + b + 16 * t).land 15 = (b / 16 + b).land 15 := by decide +kernel
theorem land_split (b h m k : Nat) (hb : b < 256) (hm : m < 256) : (b + 256 * h).land (m + 256 * k) = b.land m + 256 * h.land k := by
  show (b + 256 * h) &&& (m + 256 * k) = (b &&& m) + 256 * (h &&& k)
  have hl : b &&& m < 2 ^ 8 := Nat.lt_of_le_of_lt Nat.and_le_left hb
  apply Nat.eq_of_testBit_eq
  intro i
  have e : ∀ x y : Nat, x < 256 → (x + 256 * y).testBit i = if i < 8 then x.testBit i else y.testBit (i - 8) := fun x y hx => by
    rw [Nat.add_comm, show (256 : Nat) = 2 ^ 8 from rfl, Nat.testBit_two_pow_mul_add _ (show x < 2 ^ 8 from hx)]
  rw [Nat.testBit_and, e _ _ hb, e _ _ hm, e _ _ hl]
  split
  · rw [Nat.testBit_and]
  · rw [Nat.testBit_and]
def msk (m : Nat) : Nat → Nat
  | 0 => 0
  | n + 1 => m + 256 * msk m n
theorem val_s1 (l : List Nat) (h : ∀ b ∈ l, b < 256) : (val l / 2).land (msk 85 l.length) + (val l).land (msk 85 l.length) = val (l.map s1) := by
  suffices q : (val l / 2).land (msk 85 l.length) = val (l.map fun b => (b / 2).land 85) ∧ (val l).land (msk 85 l.length) = val (l.map fun b => b.land 85) by
    rw [q.1, q.2]
    clear q h
    induction l with
    | nil => rfl
    | cons b r ih => simp only [List.map_cons, val, s1] at *; omega
  induction l with
  | nil => exact ⟨rfl, rfl⟩
  | cons b r ih =>
    have hb := h b (List.mem_cons_self ..)
    obtain ⟨i1, i2⟩ := ih fun x hx => h x (List.mem_cons_of_mem _ hx)
    simp only [val, List.length_cons, msk, List.map_cons]
    constructor
    · rw [show (b + 256 * val r) / 2 = (b / 2 + 128 * (val r % 2)) + 256 * (val r / 2) by omega, land_split _ _ _ _ (by omega) (by omega), and85 _ (Nat.mod_lt _ (by omega)) b hb, i1]
    · rw [land_split _ _ _ _ hb (by omega), i2]
theorem val_s2 (l : List Nat) (h : ∀ b ∈ l, b < 256) : (val l / 4).land (msk 51 l.length) + (val l).land (msk 51 l.length) = val (l.map s2) := by
  suffices q : (val l / 4).land (msk 51 l.length) = val (l.map fun b => (b / 4).land 51) ∧ (val l).land (msk 51 l.length) = val (l.map fun b => b.land 51) by
    rw [q.1, q.2]
    clear q h
    induction l with
    | nil => rfl
    | cons b r ih => simp only [List.map_cons, val, s2] at *; omega
  induction l with
  | nil => exact ⟨rfl, rfl⟩
  | cons b r ih =>
    have hb := h b (List.mem_cons_self ..)
    obtain ⟨i1, i2⟩ := ih fun x hx => h x (List.mem_cons_of_mem _ hx)
    simp only [val, List.length_cons, msk, List.map_cons]
    constructor
    · rw [show (b + 256 * val r) / 4 = (b / 4 + 64 * (val r % 4)) + 256 * (val r / 4) by omega, land_split _ _ _ _ (by omega) (by omega), and51 _ (Nat.mod_lt _ (by omega)) b hb, i1]
    · rw [land_split _ _ _ _ hb (by omega), i2]
theorem val_s3 (l : List Nat) (h : ∀ b ∈ l, b < 256 ∧ b % 16 ≤ 4 ∧ b / 16 ≤ 4) : (val l / 16 + val l).land (msk 15 l.length) = val (l.map s3) := by
  induction l with
  | nil => rfl
  | cons b r ih =>
    obtain ⟨hb, h1, h2⟩ := h b (List.mem_cons_self ..)
    have i1 := ih fun x hx => h x (List.mem_cons_of_mem _ hx)
    have ht : val r % 16 ≤ 4 := by
      cases r with
      | nil => exact Nat.zero_le _
      | cons c q => have := (h c (by simp)).2.1; simp only [val]; omega
    simp only [val, List.length_cons, msk, List.map_cons]
    rw [show (b + 256 * val r) / 16 + (b + 256 * val r) = (b / 16 + b + 16 * (val r % 16)) + 256 * (val r / 16 + val r) by omega, land_split _ _ _ _ (by omega) (by omega), i1, and15 _ (by omega) b hb]
    rfl
theorem msk85 : msk 85 8 = 6148914691236517205 := by decide
theorem msk51 : msk 51 8 = 3689348814741910323 := by decide
theorem msk15 : msk 15 8 = 1085102592571150095 := by decide
def by8 (x : Nat) : List Nat := [x % 256, x / 256 % 256, x / 65536 % 256, x / 16777216 % 256, x / 4294967296 % 256, x / 1099511627776 % 256, x / 281474976710656 % 256, x / 72057594037927936 % 256]
theorem val_by8 (x : Nat) (h : x < 18446744073709551616) : val (by8 x) = x := by
  unfold by8; simp only [val]; omega
theorem by8_lt (x : Nat) : ∀ b ∈ by8 x, b < 256 := by
  intro b hb
  unfold by8 at hb
  simp only [List.mem_cons, List.not_mem_nil, or_false] at hb
  rcases hb with rfl | rfl | rfl | rfl | rfl | rfl | rfl | rfl <;> exact Nat.mod_lt _ (by decide)
theorem cnt_val (l : List Nat) (h : ∀ b ∈ l, b < 256) : (bitsL (val l) (8 * l.length)).length = (l.map pc8).sum := by
  induction l with
  | nil => rfl
  | cons b r ih =>
    have hb := h b (List.mem_cons_self ..)
    have i1 := ih fun x hx => h x (List.mem_cons_of_mem _ hx)
    have e : ∀ i, (b + 256 * val r).testBit i = if i < 8 then b.testBit i else (val r).testBit (i - 8) := fun i => by
      rw [Nat.add_comm, show (256 : Nat) = 2 ^ 8 from rfl, Nat.testBit_two_pow_mul_add _ (show b < 2 ^ 8 from hb)]
    rw [List.map_cons, List.sum_cons, List.length_cons, show 8 * (r.length + 1) = 8 + 8 * r.length by omega]
    simp only [val]
    rw [bitsL_add, List.length_append]
    congr 1
    · show _ = (bitsL b 8).length
      congr 1
      exact bitsL_congr _ _ _ fun i hi => by rw [e, if_pos hi]
    · rw [List.filter_map, List.length_map, ← i1]
      unfold bitsL
      congr 1
      apply List.filter_congr
      intro x _
      show (b + 256 * val r).testBit (8 + x) = _
      rw [e, if_neg (by omega), show 8 + x - 8 = x by omega]
theorem dv_low (a b n : Nat) (h : a < n) : (a + n * b) / n = b := by
  rw [Nat.add_mul_div_left _ _ (by omega), Nat.div_eq_of_lt h, Nat.zero_add]
theorem os1 (p0 p1 p2 p3 p4 p5 p6 p7 : Nat) (c0 : p0 ≤ 8) : (p0 + 256 * (p1 + 256 * (p2 + 256 * (p3 + 256 * (p4 + 256 * (p5 + 256 * (p6 + 256 * (p7 + 256 * (0))))))))) / 256 = p1 + 256 * (p2 + 256 * (p3 + 256 * (p4 + 256 * (p5 + 256 * (p6 + 256 * (p7 + 256 * (0))))))) := dv_low p0 _ 256 (by omega)
theorem os3 (q0 q1 q2 q3 q4 q5 q6 q7 : Nat) (c0 : q0 ≤ 16) (c1 : q1 ≤ 16) : (q0 + 256 * (q1 + 256 * (q2 + 256 * (q3 + 256 * (q4 + 256 * (q5 + 256 * (q6 + 256 * (q7)))))))) / 65536 = q2 + 256 * (q3 + 256 * (q4 + 256 * (q5 + 256 * (q6 + 256 * (q7))))) := by
  rw [show (q0 + 256 * (q1 + 256 * (q2 + 256 * (q3 + 256 * (q4 + 256 * (q5 + 256 * (q6 + 256 * (q7)))))))) = (q0 + 256 * q1) + 65536 * (q2 + 256 * (q3 + 256 * (q4 + 256 * (q5 + 256 * (q6 + 256 * (q7)))))) by omega, dv_low _ _ _ (by omega)]
theorem os5 (q0 q1 q2 q3 q4 q5 q6 q7 : Nat) (c0 : q0 ≤ 32) (c1 : q1 ≤ 32) (c2 : q2 ≤ 32) (c3 : q3 ≤ 32) : (q0 + 256 * (q1 + 256 * (q2 + 256 * (q3 + 256 * (q4 + 256 * (q5 + 256 * (q6 + 256 * (q7)))))))) / 4294967296 = q4 + 256 * (q5 + 256 * (q6 + 256 * (q7))) := by
  rw [show (q0 + 256 * (q1 + 256 * (q2 + 256 * (q3 + 256 * (q4 + 256 * (q5 + 256 * (q6 + 256 * (q7)))))))) = (q0 + 256 * q1 + 65536 * q2 + 16777216 * q3) + 4294967296 * (q4 + 256 * (q5 + 256 * (q6 + 256 * (q7)))) by omega, dv_low _ _ _ (by omega)]
theorem ones_sum (p0 p1 p2 p3 p4 p5 p6 p7 : Nat) (c0 : p0 ≤ 8) (c1 : p1 ≤ 8) (c2 : p2 ≤ 8) (c3 : p3 ≤ 8) (c4 : p4 ≤ 8) (c5 : p5 ≤ 8) (c6 : p6 ≤ 8) (c7 : p7 ≤ 8) :
    (p0 + 256 * (p1 + 256 * (p2 + 256 * (p3 + 256 * (p4 + 256 * (p5 + 256 * (p6 + 256 * (p7 + 256 * (0)))))))) + (p0 + 256 * (p1 + 256 * (p2 + 256 * (p3 + 256 * (p4 + 256 * (p5 + 256 * (p6 + 256 * (p7 + 256 * (0))))))))) / 256 + (p0 + 256 * (p1 + 256 * (p2 + 256 * (p3 + 256 * (p4 + 256 * (p5 + 256 * (p6 + 256 * (p7 + 256 * (0)))))))) + (p0 + 256 * (p1 + 256 * (p2 + 256 * (p3 + 256 * (p4 + 256 * (p5 + 256 * (p6 + 256 * (p7 + 256 * (0))))))))) / 256) / 65536 + (p0 + 256 * (p1 + 256 * (p2 + 256 * (p3 + 256 * (p4 + 256 * (p5 + 256 * (p6 + 256 * (p7 + 256 * (0)))))))) + (p0 + 256 * (p1 + 256 * (p2 + 256 * (p3 + 256 * (p4 + 256 * (p5 + 256 * (p6 + 256 * (p7 + 256 * (0))))))))) / 256 + (p0 + 256 * (p1 + 256 * (p2 + 256 * (p3 + 256 * (p4 + 256 * (p5 + 256 * (p6 + 256 * (p7 + 256 * (0)))))))) + (p0 + 256 * (p1 + 256 * (p2 + 256 * (p3 + 256 * (p4 + 256 * (p5 + 256 * (p6 + 256 * (p7 + 256 * (0))))))))) / 256) / 65536) / 4294967296) % 2 ^ 7 = p0 + p1 + p2 + p3 + p4 + p5 + p6 + p7 := by
  rw [os1 p0 p1 p2 p3 p4 p5 p6 p7 c0]
  obtain ⟨q0, hq0⟩ : ∃ q, q = p0 + p1 := ⟨_, rfl⟩
  obtain ⟨q1, hq1⟩ : ∃ q, q = p1 + p2 := ⟨_, rfl⟩
  obtain ⟨q2, hq2⟩ : ∃ q, q = p2 + p3 := ⟨_, rfl⟩
  obtain ⟨q3, hq3⟩ : ∃ q, q = p3 + p4 := ⟨_, rfl⟩
  obtain ⟨q4, hq4⟩ : ∃ q, q = p4 + p5 := ⟨_, rfl⟩
  obtain ⟨q5, hq5⟩ : ∃ q, q = p5 + p6 := ⟨_, rfl⟩
  obtain ⟨q6, hq6⟩ : ∃ q, q = p6 + p7 := ⟨_, rfl⟩
  obtain ⟨q7, hq7⟩ : ∃ q, q = p7 := ⟨_, rfl⟩
  rw [show (p0 + 256 * (p1 + 256 * (p2 + 256 * (p3 + 256 * (p4 + 256 * (p5 + 256 * (p6 + 256 * (p7 + 256 * (0)))))))) + (p1 + 256 * (p2 + 256 * (p3 + 256 * (p4 + 256 * (p5 + 256 * (p6 + 256 * (p7 + 256 * (0))))))))) = q0 + 256 * (q1 + 256 * (q2 + 256 * (q3 + 256 * (q4 + 256 * (q5 + 256 * (q6 + 256 * (q7))))))) by omega]
  rw [os3 q0 q1 q2 q3 q4 q5 q6 q7 (by omega) (by omega)]
  obtain ⟨r0, hr0⟩ : ∃ r, r = q0 + q2 := ⟨_, rfl⟩
  obtain ⟨r1, hr1⟩ : ∃ r, r = q1 + q3 := ⟨_, rfl⟩
  obtain ⟨r2, hr2⟩ : ∃ r, r = q2 + q4 := ⟨_, rfl⟩
  obtain ⟨r3, hr3⟩ : ∃ r, r = q3 + q5 := ⟨_, rfl⟩
  obtain ⟨r4, hr4⟩ : ∃ r, r = q4 + q6 := ⟨_, rfl⟩
  obtain ⟨r5, hr5⟩ : ∃ r, r = q5 + q7 := ⟨_, rfl⟩
  obtain ⟨r6, hr6⟩ : ∃ r, r = q6 := ⟨_, rfl⟩
  obtain ⟨r7, hr7⟩ : ∃ r, r = q7 := ⟨_, rfl⟩
  rw [show (q0 + 256 * (q1 + 256 * (q2 + 256 * (q3 + 256 * (q4 + 256 * (q5 + 256 * (q6 + 256 * (q7))))))) + (q2 + 256 * (q3 + 256 * (q4 + 256 * (q5 + 256 * (q6 + 256 * (q7))))))) = r0 + 256 * (r1 + 256 * (r2 + 256 * (r3 + 256 * (r4 + 256 * (r5 + 256 * (r6 + 256 * (r7))))))) by omega]
  rw [os5 r0 r1 r2 r3 r4 r5 r6 r7 (by omega) (by omega) (by omega) (by omega)]
  have e : r0 + r4 = p0 + p1 + p2 + p3 + p4 + p5 + p6 + p7 := by omega
  rw [← e]
  have b1 : r0 + r4 < 128 := by omega
  rw [show r0 + 256 * (r1 + 256 * (r2 + 256 * (r3 + 256 * (r4 + 256 * (r5 + 256 * (r6 + 256 * (r7))))))) + (r4 + 256 * (r5 + 256 * (r6 + 256 * (r7)))) = (r0 + r4) + 128 * (2 * (r1 + r5 + 256 * (r2 + r6 + 256 * (r3 + r7 + 256 * (r4 + 256 * (r5 + 256 * (r6 + 256 * r7))))))) by omega]
  rw [show (2 : Nat) ^ 7 = 128 from rfl, Nat.add_mul_mod_self_left, Nat.mod_eq_of_lt b1]
theorem ones_steps (x : Nat) (h : x < 18446744073709551616) :
    (o1 x < 18446744073709551616 ∧ o2 (o1 x) < 18446744073709551616 ∧ o2 (o1 x) / 16 + o2 (o1 x) < 18446744073709551616) ∧ o3 (o2 (o1 x)) < 1152921504606846976 ∧ onesN x = (bitsL x 64).length := by
  have hl := by8_lt x
  have e0 := val_by8 x h
  have hlen : (by8 x).length = 8 := rfl
  have e1 : o1 x = val ((by8 x).map s1) := by
    have := val_s1 (by8 x) hl
    rw [hlen, msk85, e0] at this; exact this
  have e2 : o2 (o1 x) = val (((by8 x).map s1).map s2) := by
    have := val_s2 ((by8 x).map s1) (fun b hb => by obtain ⟨c, hc, rfl⟩ := List.mem_map.1 hb; exact (s_all c (hl c hc)).1)
    rw [List.length_map, hlen, msk51, ← e1] at this; exact this
  have e3 : o3 (o2 (o1 x)) = val ((((by8 x).map s1).map s2).map s3) := by
    have := val_s3 (((by8 x).map s1).map s2) (fun b hb => by
      obtain ⟨d, hd, rfl⟩ := List.mem_map.1 hb
      obtain ⟨c, hc, rfl⟩ := List.mem_map.1 hd
      have q := s_all c (hl c hc)
      exact ⟨q.2.1, q.2.2.1, q.2.2.2.1⟩)
    rw [List.length_map, List.length_map, hlen, msk15, ← e2] at this; exact this
  have e4 : (((by8 x).map s1).map s2).map s3 = (by8 x).map pc8 := by
    rw [List.map_map, List.map_map]
    exact List.map_congr_left fun b hb => (s_all b (hl b hb)).2.2.2.2.1
  rw [e4] at e3
  have e5 : (bitsL x 64).length = ((by8 x).map pc8).sum := by
    have := cnt_val (by8 x) hl
    rw [hlen, e0] at this; exact this
  rw [e5]
  clear e0 e4 e5 hlen
  unfold onesN o6 o5 o4
  rw [e3, e1]
  rw [e1] at e2
  rw [e2]
  clear e1 e2 e3
  unfold by8 at *
  simp only [List.map_cons, List.map_nil, val, List.sum_cons, List.sum_nil]
  have q : ∀ b ∈ by8 x, s1 b < 256 ∧ s2 (s1 b) < 256 ∧ s2 (s1 b) % 16 ≤ 4 ∧ s2 (s1 b) / 16 ≤ 4 ∧ pc8 b ≤ 8 := fun b hb => by
    have r := s_all b (hl b hb)
    exact ⟨r.1, r.2.1, r.2.2.1, r.2.2.2.1, r.2.2.2.2.2⟩
  unfold by8 at q
  have q0 := q (x % 256) (by simp)
  have q1 := q (x / 256 % 256) (by simp)
  have q2 := q (x / 65536 % 256) (by simp)
  have q3 := q (x / 16777216 % 256) (by simp)
  have q4 := q (x / 4294967296 % 256) (by simp)
  have q5 := q (x / 1099511627776 % 256) (by simp)
  have q6 := q (x / 281474976710656 % 256) (by simp)
  have q7 := q (x / 72057594037927936 % 256) (by simp)
  clear q hl
  generalize x % 256 = b0 at *
  generalize x / 256 % 256 = b1 at *
  generalize x / 65536 % 256 = b2 at *
  generalize x / 16777216 % 256 = b3 at *
  generalize x / 4294967296 % 256 = b4 at *
  generalize x / 1099511627776 % 256 = b5 at *
  generalize x / 281474976710656 % 256 = b6 at *
  generalize x / 72057594037927936 % 256 = b7 at *
  refine ⟨⟨?_, ?_, ?_⟩, ?_, ?_⟩
  · omega
  · omega
  · omega
  · omega
  · show Nat.land _ (2 ^ 7 - 1) = _
    rw [show ∀ a b : Nat, Nat.land a b = a &&& b from fun _ _ => rfl, Nat.and_two_pow_sub_one_eq_mod]
    generalize pc8 b0 = p0 at *
    generalize pc8 b1 = p1 at *
    generalize pc8 b2 = p2 at *
    generalize pc8 b3 = p3 at *
    generalize pc8 b4 = p4 at *
    generalize pc8 b5 = p5 at *
    generalize pc8 b6 = p6 at *
    generalize pc8 b7 = p7 at *
    clear h
    have c0 := q0.2.2.2.2
    have c1 := q1.2.2.2.2
    have c2 := q2.2.2.2.2
    have c3 := q3.2.2.2.2
    have c4 := q4.2.2.2.2
    have c5 := q5.2.2.2.2
    have c6 := q6.2.2.2.2
    have c7 := q7.2.2.2.2
    clear q0 q1 q2 q3 q4 q5 q6 q7
    have := ones_sum p0 p1 p2 p3 p4 p5 p6 p7 c0 c1 c2 c3 c4 c5 c6 c7
    rw [this]; omega
theorem ctzFrom_bit : ∀ (f x : Nat), 0 < x → x < 2 ^ f → x.testBit (Lib.ctzFrom f x) = true ∧ ∀ i, i < Lib.ctzFrom f x → x.testBit i = false
  | 0, x, h0, h => by simp at h; omega
  | f + 1, x, h0, h => by
    unfold Lib.ctzFrom
    split
    · rename_i h1
      exact ⟨by rw [Nat.testBit_zero]; exact decide_eq_true h1, fun i hi => by omega⟩
    · rename_i h1
      have hx : x / 2 < 2 ^ f := by rw [Nat.pow_succ] at h; omega
      obtain ⟨a, b⟩ := ctzFrom_bit f (x / 2) (by omega) hx
      refine ⟨by rw [Nat.add_comm, Nat.testBit_succ]; exact a, fun i hi => ?_⟩
      cases i with
      | zero => rw [Nat.testBit_zero]; exact decide_eq_false h1
      | succ i => rw [Nat.testBit_succ]; exact b i (by omega)
theorem ctz_bit (x : Nat) (h0 : x ≠ 0) (h : x < 18446744073709551616) : x.testBit (Lib.ctz 64 x) = true ∧ (∀ i, i < Lib.ctz 64 x → x.testBit i = false) ∧ Lib.ctz 64 x < 64 := by
  unfold Lib.ctz
  rw [if_neg h0]
  obtain ⟨a, b⟩ := ctzFrom_bit 64 x (by omega) h
  obtain ⟨_, _, c⟩ := Lib.ctzFrom_spec 64 x (by omega) h
  exact ⟨a, b, c⟩
def restN (x a : Nat) : Nat := x &&& (18446744073709551615 - (2 ^ a - 1))
theorem restN_bit (x a j : Nat) (hx : x < 18446744073709551616) (ha : a < 64) : (restN x a).testBit j = (x.testBit j && decide (a ≤ j)) := by
  unfold restN
  rw [Nat.testBit_and]
  by_cases hj : j < 64
  · have hp : 2 ^ a - 1 < 2 ^ 64 := by
      have : 2 ^ a < 2 ^ 64 := Nat.pow_lt_pow_right (by decide) ha
      omega
    rw [show 18446744073709551615 - (2 ^ a - 1) = 2 ^ 64 - ((2 ^ a - 1) + 1) by omega, Nat.testBit_two_pow_sub_succ hp, decide_eq_true hj, Bool.true_and, Nat.testBit_two_pow_sub_one]
    congr 1
    rw [Bool.eq_iff_iff]; simp
  · have : x.testBit j = false := Nat.testBit_lt_two_pow (Nat.lt_of_lt_of_le (show x < 2 ^ 64 from hx) (Nat.pow_le_pow_right (by decide) (by omega)))
    rw [this, Bool.false_and, Bool.false_and]
theorem restN_lt (x a : Nat) (hx : x < 18446744073709551616) : restN x a < 18446744073709551616 := Nat.lt_of_le_of_lt Nat.and_le_left hx
theorem nxt_word (M p n j a : Nat) (ha : a < 64) (hn : 64 * j + 64 ≤ n) (h1 : p ≤ 64 * j + a) (h2 : ∀ i, p ≤ i → i < 64 * j + a → M.testBit i = false) (h : restN (wrd M j) a ≠ 0) : Nxt M p n (64 * j + Lib.ctz 64 (restN (wrd M j) a)) := by
  obtain ⟨c1, c2, c3⟩ := ctz_bit _ h (restN_lt _ _ (wrd_lt M j))
  rw [restN_bit _ _ _ (wrd_lt M j) ha, wrd_bit, Bool.and_eq_true, Bool.and_eq_true] at c1
  obtain ⟨⟨_, c4⟩, c5⟩ := c1
  have c6 := of_decide_eq_true c5
  refine ⟨by omega, by omega, c4, fun i hp hi => ?_⟩
  by_cases q : i < 64 * j + a
  · exact h2 i hp q
  · have := c2 (i - 64 * j) (by omega)
    rw [restN_bit _ _ _ (wrd_lt M j) ha, wrd_bit, decide_eq_true (show a ≤ i - 64 * j by omega), decide_eq_true (show i - 64 * j < 64 by omega), Bool.and_true, Bool.true_and, show 64 * j + (i - 64 * j) = i by omega] at this
    exact this
theorem nxt_none (M p j a : Nat) (ha : a < 64) (h2 : ∀ i, p ≤ i → i < 64 * j + a → M.testBit i = false) (h : restN (wrd M j) a = 0) : ∀ i, p ≤ i → i < 64 * (j + 1) → M.testBit i = false := by
  intro i hp hi
  by_cases q : i < 64 * j + a
  · exact h2 i hp q
  · have e := restN_bit (wrd M j) a (i - 64 * j) (wrd_lt M j) ha
    rw [h, Nat.zero_testBit, wrd_bit, decide_eq_true (show a ≤ i - 64 * j by omega), decide_eq_true (show i - 64 * j < 64 by omega), Bool.and_true, Bool.true_and, show 64 * j + (i - 64 * j) = i by omega] at e
    exact e.symm
end Go.Proofs.YtcgaibkpdihncaaDoor
namespace Go.Proofs.YtcgaibkpdihncaaDoor
open Go.RowKit Go.Lib
theorem ow1w (x : Nat) (h : o1 x < 18446744073709551616) : IntKind.u64.wrap (((x / 2).land 6148914691236517205 : Nat) + ((x.land 6148914691236517205 : Nat) : Int)) = ((o1 x : Nat) : Int) := by
  rw [IntKind.wrap_u64]; unfold o1 at *; omega
theorem ow2w (x : Nat) (h : o2 x < 18446744073709551616) : IntKind.u64.wrap (((x / 4).land 3689348814741910323 : Nat) + ((x.land 3689348814741910323 : Nat) : Int)) = ((o2 x : Nat) : Int) := by
  rw [IntKind.wrap_u64]; unfold o2 at *; omega
theorem ow4w (x : Nat) (h : x < 4611686018427387904) (d : Nat) : IntKind.u64.wrap ((x : Int) + ((x / d : Nat) : Int)) = ((x + x / d : Nat) : Int) := by
  have := Nat.div_le_self x d
  generalize x / d = y at *
  rw [IntKind.wrap_u64]; omega
set_option maxRecDepth 100000 in
set_option maxHeartbeats 400000 in
theorem ones64_all (x : Nat) (h : x < 18446744073709551616) (w : World) : Calls Tryd.prog 32 #[.int .u64 (x : Int)] w fun e w' => e = .returned (.int .i64 (((bitsL x 64).length : Nat) : Int)) ∧ w = w' := by
  obtain ⟨⟨h1, h2, h3⟩, h4, hP⟩ := ones_steps x h
  rw [← hP]
  clear hP
  have h5 : o4 (o3 (o2 (o1 x))) < 2305843009213693952 := by unfold o4; omega
  have h6 : o5 (o4 (o3 (o2 (o1 x)))) < 4611686018427387904 := by unfold o5; omega
  have h7 : o6 (o5 (o4 (o3 (o2 (o1 x))))) < 9223372036854775808 := by unfold o6; omega
  have A1 := Lib.hid (show bits .and .u64 ((x / 2 : Nat) : Int) 6148914691236517205 = (((x / 2).land 6148914691236517205 : Nat) : Int) from u64_land (x / 2) 6148914691236517205 (by omega) (by decide))
  have A2 := Lib.hid (show bits .and .u64 (x : Int) 6148914691236517205 = ((x.land 6148914691236517205 : Nat) : Int) from u64_land x 6148914691236517205 (by omega) (by decide))
  have E1 := Lib.hid (ow1w x h1)
  have B1 := Lib.hid (show bits .and .u64 ((o1 x / 4 : Nat) : Int) 3689348814741910323 = (((o1 x / 4).land 3689348814741910323 : Nat) : Int) from u64_land (o1 x / 4) 3689348814741910323 (by omega) (by decide))
  have B2 := Lib.hid (show bits .and .u64 ((o1 x : Nat) : Int) 3689348814741910323 = (((o1 x).land 3689348814741910323 : Nat) : Int) from u64_land (o1 x) 3689348814741910323 (by omega) (by decide))
  have E2 := Lib.hid (ow2w (o1 x) h2)
  have D2 := Lib.hid (show IntKind.u64.wrap (((o2 (o1 x)) / 16 : Nat) + ((o2 (o1 x) : Nat) : Int)) = ((o2 (o1 x) / 16 + o2 (o1 x) : Nat) : Int) from by rw [IntKind.wrap_u64]; omega)
  have C1 := Lib.hid (show bits .and .u64 ((o2 (o1 x) / 16 + o2 (o1 x) : Nat) : Int) 1085102592571150095 = ((o3 (o2 (o1 x)) : Nat) : Int) from u64_land (o2 (o1 x) / 16 + o2 (o1 x)) 1085102592571150095 (by omega) (by decide))
  have F4 := Lib.hid (show IntKind.u64.wrap _ = ((o4 (o3 (o2 (o1 x))) : Nat) : Int) from ow4w (o3 (o2 (o1 x))) (by omega) 256)
  have F5 := Lib.hid (show IntKind.u64.wrap _ = ((o5 (o4 (o3 (o2 (o1 x)))) : Nat) : Int) from ow4w (o4 (o3 (o2 (o1 x)))) (by omega) 65536)
  have F6 := Lib.hid (show IntKind.u64.wrap _ = ((o6 (o5 (o4 (o3 (o2 (o1 x))))) : Nat) : Int) from ow4w (o5 (o4 (o3 (o2 (o1 x))))) (by omega) 4294967296)
  have G1 := Lib.hid (show bits .and .i64 ((o6 (o5 (o4 (o3 (o2 (o1 x))))) : Nat) : Int) 127 = ((onesN x : Nat) : Int) from and_i64 _ 127 (by omega) (by decide))
  have G0 := Lib.hid (show IntKind.i64.wrap ((o6 (o5 (o4 (o3 (o2 (o1 x))))) : Nat) : Int) = ((o6 (o5 (o4 (o3 (o2 (o1 x))))) : Nat) : Int) from by rw [IntKind.wrap_i64]; omega)
  have d1 : (x : Int) / 2 = ((x / 2 : Nat) : Int) := by omega
  have d2 : ((o1 x : Nat) : Int) / 4 = ((o1 x / 4 : Nat) : Int) := by omega
  have d3 : ((o2 (o1 x) : Nat) : Int) / 16 = ((o2 (o1 x) / 16 : Nat) : Int) := by omega
  have d4 : ((o3 (o2 (o1 x)) : Nat) : Int) / 256 = ((o3 (o2 (o1 x)) / 256 : Nat) : Int) := by omega
  have d5 : ((o4 (o3 (o2 (o1 x))) : Nat) : Int) / 65536 = ((o4 (o3 (o2 (o1 x))) / 65536 : Nat) : Int) := by omega
  have d6 : ((o5 (o4 (o3 (o2 (o1 x)))) : Nat) : Int) / 4294967296 = ((o5 (o4 (o3 (o2 (o1 x)))) / 4294967296 : Nat) : Int) := by omega
  generalize onesN x = z at *
  generalize o6 (o5 (o4 (o3 (o2 (o1 x))))) = x6 at *
  generalize o5 (o4 (o3 (o2 (o1 x)))) = x5 at *
  generalize o4 (o3 (o2 (o1 x))) = x4 at *
  generalize o3 (o2 (o1 x)) = x3 at *
  generalize o2 (o1 x) = x2 at *
  generalize o1 x = x1 at *
  generalize (x / 2).land 6148914691236517205 = a1 at *
  generalize x.land 6148914691236517205 = a2 at *
  generalize (x1 / 4).land 3689348814741910323 = b1 at *
  generalize x1.land 3689348814741910323 = b2 at *
  generalize x / 2 = xa at *
  generalize x1 / 4 = xb at *
  generalize x2 / 16 + x2 = xc at *
  generalize x2 / 16 = xd at *
  generalize x3 / 256 = xe at *
  generalize x4 / 65536 = xf at *
  generalize x5 / 4294967296 = xg at *
  have D1 := Lib.hid d1
  have D3 := Lib.hid d3
  clear h1 h2 h3 h4 h5 h6 h7 h
  have a1' := A1.out
  have a2' := A2.out
  have e1' := E1.out
  have b1' := B1.out
  have b2' := B2.out
  have e2' := E2.out
  have c1' := C1.out
  have c2' := D2.out
  have f4' := F4.out
  have f5' := F5.out
  have f6' := F6.out
  have g0' := G0.out
  have g1' := G1.out
  go_enter Tryd.func32, Tryd.ntmps32
  go_wp2
  go_ret
  exact ⟨rfl, rfl⟩
def tzI : List Int := List.map (fun n : Nat => (n : Int)) Lib.deBruijn64tab
def Env (w : World) : Prop := Lib.TabIs Tryd.prog w "math/bits.deBruijn64tab" .u8 tzI
theorem gTz : Tryd.prog.globalNamed "math/bits.deBruijn64tab" = some 0 := by kernel_rfl
theorem Env.kept {w w' : World} (h : Env w) (hk : w'.heap[0]? = w.heap[0]?) : Env w' := by
  unfold Env Lib.TabIs World.var? at h ⊢
  rw [gTz] at h ⊢
  simp only [Option.bind_some] at h ⊢
  rw [hk]
  exact h
theorem Env.lt {w : World} (h : Env w) : 0 < w.heap.size := by
  rcases Nat.lt_or_ge 0 w.heap.size with hlt | hge
  · exact hlt
  · unfold Env Lib.TabIs World.var? at h
    rw [gTz] at h
    simp only [Option.bind_some] at h
    rw [Array.getElem?_eq_none hge] at h
    cases h
theorem Env.below {w w' : World} {B : Nat} (h : Env w) (hb : Below B w w') (h0 : 0 < B) : Env w' := h.kept (hb.block 0 h0)
theorem Env.cell {w : World} (h : Env w) (i : Nat) (hi : i < 64) : w.cell? ⟨0, i, none⟩ = some (.int .u8 ((Lib.deBruijn64tab.getD i 0 : Nat) : Int)) := by
  have q := Lib.TabIs.cell h gTz i (by have : tzI.length = 64 := rfl; omega)
  rw [q]
  have e : tzI.getD i 0 = ((Lib.deBruijn64tab.getD i 0 : Nat) : Int) := by
    unfold tzI
    rw [List.getD_eq_getElem?_getD, List.getElem?_map, List.getD_eq_getElem?_getD]
    rw [List.getElem?_eq_getElem (show i < Lib.deBruijn64tab.length from hi)]; rfl
  rw [e]
theorem tz_key (x a : Nat) (hx : x < 18446744073709551616) (hx0 : x ≠ 0) (hlow : x &&& (18446744073709551616 - x) = a) :
    IntKind.u64.wrap (bits BinOp.and IntKind.u64 (x : Int) (IntKind.u64.wrap (-(x : Int))) * 285870213051353865) / 288230376151711744 = ((a * 285870213051353865 % 18446744073709551616 / 288230376151711744 : Nat) : Int) := by
  have e1 : IntKind.u64.wrap (-(x : Int)) = ((18446744073709551616 - x : Nat) : Int) := by rw [IntKind.wrap_u64]; omega
  rw [e1, u64_and_nat x _ hx (by omega), hlow, IntKind.wrap_u64]
  omega
set_option maxRecDepth 100000 in
set_option maxHeartbeats 4000000 in
theorem tz_core (x k idx : Nat) (w : World) (hx0 : ((x : Int) == 0) = false)
    (key : IntKind.u64.wrap (bits BinOp.and IntKind.u64 (x : Int) (IntKind.u64.wrap (-(x : Int))) * 285870213051353865) / 288230376151711744 = (idx : Int))
    (hi : idx < 64) (hk : k < 64) (hcell : w.cell? ⟨0, idx, none⟩ = some (.int .u8 k)) :
    Calls Tryd.prog 50 #[.int .u64 x] w fun e w' => e = .returned (.int .i64 k) ∧ w' = w := by
  go_enter Tryd.func50, Tryd.ntmps50
  go_wp2_with (simp only [key])
  go_ret
  exact ⟨rfl, rfl⟩
theorem tz_all (x : Nat) (h : x < 18446744073709551616) (h0 : x ≠ 0) (w : World) (hE : Env w) :
    Calls Tryd.prog 50 #[.int .u64 (x : Int)] w fun e w' => e = .returned (.int .i64 ((Lib.ctz 64 x : Nat) : Int)) ∧ w = w' := by
  obtain ⟨hlow, hk⟩ := Lib.lowest_bit 64 x h0 h
  obtain ⟨hi, htab⟩ := Lib.deBruijn64_at _ hk
  have hcell := hE.cell _ hi
  rw [htab] at hcell
  refine (tz_core x _ _ w (by simp; omega) (tz_key x _ h h0 hlow) hi hk hcell).mono ?_
  rintro e w' ⟨h1, h2⟩
  exact ⟨h1, h2.symm⟩
set_option maxRecDepth 100000 in
set_option maxHeartbeats 4000000 in
theorem spot_any (p : Nat) (hp : p ≤ 1000000) (w : World) :
    Calls Tryd.prog 27 #[.int .i64 (p : Int)] w fun e w' => e = .returned (.tuple #[.int .i64 ((p / 64 : Nat) : Int), .int .u64 ((2 ^ (p % 64) : Nat) : Int)]) ∧ Below w.heap.size w w' := by
  have K := Lib.hid (Below.refl w.heap.size w)
  obtain ⟨q, hq⟩ : ∃ q, q = p / 64 := ⟨_, rfl⟩
  obtain ⟨r, hr⟩ : ∃ r, r = p % 64 := ⟨_, rfl⟩
  have HQ := Lib.hid (show IntKind.i64.wrap ((p : Int) / 64) = (q : Int) by rw [IntKind.wrap_i64]; omega)
  have HR := Lib.hid (show (p : Int).tmod 64 = (r : Int) by rw [hr, Int.tmod_eq_emod_of_nonneg (by omega)]; omega)
  rw [← hq, ← hr]
  have hr64 : r < 64 := by omega
  obtain ⟨z, hz⟩ : ∃ z : Nat, z = 2 ^ r := ⟨_, rfl⟩
  rw [← hz]
  have HZ := Lib.hid (show IntKind.u64.wrap (2 ^ r) = (z : Int) by
    have h1 : 2 ^ r < 2 ^ 64 := Nat.pow_lt_pow_right (by decide) hr64
    have e : (2 : Int) ^ r = ((2 ^ r : Nat) : Int) := by push_cast; rfl
    rw [hz, IntKind.wrap_u64, e]; omega)
  clear hq hr hz
  go_enter Tryd.func27, Tryd.ntmps27
  go_wp2_with fail
  refine wp_region_held (S := (fun w' : World => Below (w.heap.size) w w')) (by kernel_rfl) ?_
  change wpAnyH _ _ _ _ _ _ _ _ w.drew
  have hy : Below w.heap.size w w.drew := (Below.refl _ _).drew
  have hE0 : Below (w.heap.size) w w.drew := (Below.refl _ _).drew
  clear hy
  generalize w.drew = Y1x0 at hE0  ⊢
  have E0 := Lib.hid hE0
  clear hE0
  refine tkA 0 (?_) ?_ E0.out ?_
  rotate_left
  · (intro w1 hS; go_simp; try with_reducible rfl)
  simp only [Act.put, tS1, tS2, tS3]
  refine tkA 1 (?_) ?_ E0.out ?_
  rotate_left
  · (intro w1 hS; have hW := hS; have q := HQ.out; clear hW hS; go_simp; try with_reducible rfl)
  simp only [Act.put, tS1, tS2, tS3]
  refine tkA 5 (?_) ?_ E0.out ?_
  rotate_left
  · (intro w1 hS; go_simp; try with_reducible rfl)
  simp only [Act.put, tS1, tS2, tS3]
  refine tkA 2 (?_) ?_ E0.out ?_
  rotate_left
  · (intro w1 hS; go_simp; try with_reducible rfl)
  simp only [Act.put, tS1, tS2, tS3]
  refine tkA 3 (?_) ?_ E0.out ?_
  rotate_left
  · (intro w1 hS; have hW := hS; have q := HR.out; clear hW hS; go_simp; try with_reducible rfl)
  simp only [Act.put, tS1, tS2, tS3]
  refine tkA 4 (?_) ?_ E0.out ?_
  rotate_left
  · (intro w1 hS; have hW := hS; have q := HZ.out; clear hW hS; go_simp; try with_reducible rfl)
  simp only [Act.put, tS1, tS2, tS3]
  refine tkA 6 (?_) ?_ E0.out ?_
  rotate_left
  · (intro w1 hS; go_simp; try with_reducible rfl)
  simp only [Act.put, tS1, tS2, tS3]
  refine wpAnyH_done (by kernel_rfl) ?_ _
  have hy := E0.out
  replace K := Lib.hid (K.out.trans (hy.mono K.out.size))
  clear hy E0
  go_wp2
  go_ret2
  exact ⟨rfl, K.out⟩
end Go.Proofs.YtcgaibkpdihncaaDoor
