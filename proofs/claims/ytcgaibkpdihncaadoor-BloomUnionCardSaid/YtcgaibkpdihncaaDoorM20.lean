/- Texts that the walks of this seat lean on, put together. -/
import Derived.Lib.TrailingZeros
import Derived.WalkKit
import Derived.LoopTactic
import Derived.Handy
import Derived.Lib.Hide
import Derived.Laws.CopyOwn
import Derived.BigQuiet
import Derived.Deep.QuietTactic
import Derived.KernelRfl
import Derived.Lib.AppendZeros
import Derived.Lib.AppendZerosOnto
import Derived.Laws.AppendOwnNone
import Derived.BigFrame
import Derived.WalkSpells
import Derived.WalkLawsBesides
import Derived.RangeFuncNested
import Derived.RangeFuncBound
import Derived.RangeFuncCalls
import Derived.RangeFuncLeaves
import Derived.RangeFuncBox
import Derived.Shelf.Abstract
import Derived.Shelf.RegionOpen
import Derived.OwnWalkIn
import Derived.TacticsInMore
import Derived.LoopNIn
import Derived.LoopIn
import Derived.Maps.AppendAt
import Derived.WalkSmall
import Derived.Lib.QuietBelow
import Derived.Deep.RegionHeld
import Derived.Below
import Derived.Tactics
import Derived.Test.YtcgaibkpdihncaaDoorTk
import Derived.Test.YtcgaibkpdihncaaDoorM01
import Derived.Test.YtcgaibkpdihncaaDoorM02
import Derived.Test.YtcgaibkpdihncaaDoorM03
import Derived.Test.YtcgaibkpdihncaaDoorM04
import Derived.Test.YtcgaibkpdihncaaDoorM05
import Derived.Test.YtcgaibkpdihncaaDoorM08
import Derived.Test.YtcgaibkpdihncaaDoorM10
import Derived.Test.YtcgaibkpdihncaaDoorM11
import Derived.Test.YtcgaibkpdihncaaDoorM12
import Derived.Test.YtcgaibkpdihncaaDoorProg
namespace Go.Proofs.YtcgaibkpdihncaaDoor
def bitsL (M n : Nat) : List Nat := (List.range n).filter fun i => M.testBit i
def wrd (M i : Nat) : Nat := M / 2 ^ (64 * i) % 18446744073709551616
def wrds (M L : Nat) : List Nat := (List.range L).map (wrd M)
def put1 (M p : Nat) : Nat := M ||| 2 ^ p
def insB (N : Nat) (l : List Nat) (M : Nat) : Nat := l.foldl (fun M b => put1 M (b % N)) M
def hasB (N : Nat) (l : List Nat) (M : Nat) : Bool := l.all fun b => M.testBit (b % N)
theorem put1_bit (M p q : Nat) : (put1 M p).testBit q = (M.testBit q || decide (p = q)) := by
  unfold put1; rw [Nat.testBit_or, Nat.testBit_two_pow]
theorem insB_bit (N : Nat) (l : List Nat) (M q : Nat) : (insB N l M).testBit q = (M.testBit q || l.any fun b => decide (b % N = q)) := by
  induction l generalizing M with
  | nil => simp [insB]
  | cons b r ih =>
    show (insB N r (put1 M (b % N))).testBit q = _
    rw [ih, put1_bit, List.any_cons, Bool.or_assoc]
theorem insB_snoc (N : Nat) (l : List Nat) (b M : Nat) : insB N (l ++ [b]) M = put1 (insB N l M) (b % N) := by
  unfold insB; rw [List.foldl_append]; rfl
theorem hasB_snoc (N : Nat) (l : List Nat) (b M : Nat) : hasB N (l ++ [b]) M = (hasB N l M && M.testBit (b % N)) := by
  unfold hasB; rw [List.all_append]; simp
theorem put1_same (M p : Nat) (h : M.testBit p = true) : put1 M p = M := by
  apply Nat.eq_of_testBit_eq; intro q
  rw [put1_bit]
  by_cases e : p = q
  · subst e; simp [h]
  · simp [e]
theorem insB_has (N : Nat) (l : List Nat) (M : Nat) (h : hasB N l M = true) : insB N l M = M := by
  apply Nat.eq_of_testBit_eq; intro q
  rw [insB_bit]
  cases hq : M.testBit q with
  | true => rfl
  | false =>
    rw [Bool.false_or, Bool.eq_false_iff]
    intro hc
    obtain ⟨b, hb, he⟩ := List.any_eq_true.1 hc
    have := List.all_eq_true.1 h b hb
    rw [of_decide_eq_true he, hq] at this
    exact absurd this (by decide)
theorem fresh_next (N : Nat) (l : List Nat) (b M : Nat) : (!hasB N (l ++ [b]) M) = (!hasB N l M || !(insB N l M).testBit (b % N)) := by
  rw [hasB_snoc]
  cases h : hasB N l M with
  | false => rfl
  | true => rw [insB_has N l M h]; simp
theorem insB_keeps (N : Nat) (l : List Nat) (M q : Nat) (h : M.testBit q = true) : (insB N l M).testBit q = true := by rw [insB_bit, h, Bool.true_or]
theorem hasB_ins (N : Nat) (l : List Nat) (M : Nat) : hasB N l (insB N l M) = true := by
  unfold hasB
  rw [List.all_eq_true]
  intro b hb
  rw [insB_bit, Bool.or_eq_true]
  exact .inr (List.any_eq_true.2 ⟨b, hb, decide_eq_true rfl⟩)
theorem hasB_keeps (N : Nat) (l k : List Nat) (M : Nat) (h : hasB N l M = true) : hasB N l (insB N k M) = true := by
  unfold hasB at *
  rw [List.all_eq_true] at *
  intro b hb
  exact insB_keeps _ _ _ _ (h b hb)
theorem hasB_zero (N : Nat) (l : List Nat) (h : l ≠ []) : hasB N l 0 = false := by
  cases l with
  | nil => exact absurd rfl h
  | cons b r => unfold hasB; simp
def Under (M n : Nat) : Prop := ∀ q, n ≤ q → M.testBit q = false
theorem under_zero (n : Nat) : Under 0 n := fun q _ => Nat.zero_testBit q
theorem under_insB {N M : Nat} (l : List Nat) (h : Under M N) (h0 : 0 < N) : Under (insB N l M) N := by
  intro q hq
  rw [insB_bit, h q hq, Bool.false_or, Bool.eq_false_iff]
  intro hc
  obtain ⟨b, _, he⟩ := List.any_eq_true.1 hc
  have h1 := of_decide_eq_true he
  have h2 := Nat.mod_lt b h0
  omega
theorem wrd_lt (M i : Nat) : wrd M i < 18446744073709551616 := Nat.mod_lt _ (by decide)
theorem wrd_bit (M i j : Nat) : (wrd M i).testBit j = (decide (j < 64) && M.testBit (64 * i + j)) := by
  unfold wrd
  rw [show (18446744073709551616 : Nat) = 2 ^ 64 from rfl, Nat.testBit_mod_two_pow, Nat.testBit_div_two_pow, Nat.add_comm j]
theorem wrds_len (M L : Nat) : (wrds M L).length = L := by unfold wrds; rw [List.length_map, List.length_range]
theorem wrds_get (M L i : Nat) (h : i < L) : (wrds M L).getD i 0 = wrd M i := by
  unfold wrds
  rw [List.getD_eq_getElem?_getD, List.getElem?_map, List.getElem?_range h]; rfl
theorem wrd_put1 (M p i : Nat) : wrd (put1 M p) i = if i = p / 64 then wrd M i ||| 2 ^ (p % 64) else wrd M i := by
  apply Nat.eq_of_testBit_eq; intro j
  have hm : p % 64 < 64 := Nat.mod_lt _ (by decide)
  have hd : p = 64 * (p / 64) + p % 64 := by omega
  by_cases e : i = p / 64
  · rw [if_pos e, wrd_bit, put1_bit, Nat.testBit_or, wrd_bit, Nat.testBit_two_pow]
    by_cases hj : j < 64
    · rw [decide_eq_true hj, Bool.true_and, Bool.true_and]
      congr 1
      rw [Bool.eq_iff_iff, decide_eq_true_iff, decide_eq_true_iff]
      omega
    · rw [decide_eq_false hj, Bool.false_and, Bool.false_and, Bool.false_or]
      exact (decide_eq_false (by omega)).symm
  · rw [if_neg e, wrd_bit, put1_bit, wrd_bit]
    by_cases hj : j < 64
    · rw [decide_eq_false (show ¬ p = 64 * i + j by omega), Bool.or_false]
    · rw [decide_eq_false hj, Bool.false_and, Bool.false_and]
theorem wrds_put1 (M p L : Nat) : wrds (put1 M p) L = (wrds M L).set (p / 64) (wrd M (p / 64) ||| 2 ^ (p % 64)) := by
  apply List.ext_getElem?
  intro i
  unfold wrds
  rw [List.getElem?_set]
  by_cases e : p / 64 = i
  · subst e
    rw [if_pos rfl, List.length_map, List.length_range, List.getElem?_map]
    by_cases h : p / 64 < L
    · rw [List.getElem?_range h, if_pos h, Option.map_some, wrd_put1, if_pos rfl]
    · rw [if_neg h, List.getElem?_eq_none (by rw [List.length_range]; omega)]; rfl
  · rw [if_neg e, List.getElem?_map, List.getElem?_map]
    by_cases h : i < L
    · rw [List.getElem?_range h, Option.map_some, Option.map_some, wrd_put1, if_neg (fun h => e h.symm)]
    · rw [List.getElem?_eq_none (by rw [List.length_range]; omega)]; rfl
theorem wrds_zero (L : Nat) : wrds 0 L = List.replicate L 0 := by
  unfold wrds
  apply List.eq_replicate_iff.2
  refine ⟨by rw [List.length_map, List.length_range], fun x hx => ?_⟩
  obtain ⟨i, _, rfl⟩ := List.mem_map.1 hx
  unfold wrd; simp
theorem and_bit (x j : Nat) : (x &&& 2 ^ j = 0) ↔ x.testBit j = false := by
  constructor
  · intro h
    have : (x &&& 2 ^ j).testBit j = false := by rw [h]; exact Nat.zero_testBit j
    rw [Nat.testBit_and, Nat.testBit_two_pow, decide_eq_true rfl, Bool.and_true] at this
    exact this
  · intro h
    apply Nat.eq_of_testBit_eq; intro q
    rw [Nat.testBit_and, Nat.testBit_two_pow, Nat.zero_testBit]
    by_cases e : j = q
    · subst e; rw [h, Bool.false_and]
    · rw [decide_eq_false e, Bool.and_false]
theorem has_bit (M p : Nat) : decide (wrd M (p / 64) &&& 2 ^ (p % 64) = 0) = !M.testBit p := by
  have hm : p % 64 < 64 := Nat.mod_lt _ (by decide)
  have hb : (wrd M (p / 64)).testBit (p % 64) = M.testBit p := by
    rw [wrd_bit, decide_eq_true hm, Bool.true_and, show 64 * (p / 64) + p % 64 = p by omega]
  cases h : M.testBit p with
  | true => exact decide_eq_false fun q => by rw [(and_bit _ _).1 q, h] at hb; cases hb
  | false => exact decide_eq_true ((and_bit _ _).2 (hb.trans h))
theorem bitsL_add (M a n : Nat) : bitsL M (a + n) = bitsL M a ++ ((List.range n).map (a + ·)).filter (fun i => M.testBit i) := by
  unfold bitsL; rw [List.range_add, List.filter_append]
theorem bitsL_succ (M n : Nat) : bitsL M (n + 1) = bitsL M n ++ (if M.testBit n then [n] else []) := by
  unfold bitsL; rw [List.range_succ, List.filter_append]; congr 1; rw [List.filter_cons, List.filter_nil]
theorem bitsL_le (M n : Nat) : (bitsL M n).length ≤ n := by
  have := List.length_filter_le (fun i => M.testBit i) (List.range n)
  rw [List.length_range] at this; exact this
theorem bitsL_none (M a n : Nat) (h : ∀ i, a ≤ i → i < a + n → M.testBit i = false) : bitsL M (a + n) = bitsL M a := by
  rw [bitsL_add, List.filter_eq_nil_iff.2, List.append_nil]
  intro x hx
  obtain ⟨i, hi, rfl⟩ := List.mem_map.1 hx
  rw [List.mem_range] at hi
  rw [h (a + i) (by omega) (by omega)]; decide
theorem bitsL_none' (M a n : Nat) (hl : a ≤ n) (h : ∀ i, a ≤ i → i < n → M.testBit i = false) : bitsL M n = bitsL M a := by
  have := bitsL_none M a (n - a) (fun i h1 h2 => h i h1 (by omega))
  rwa [show a + (n - a) = n by omega] at this
theorem bitsL_under (M n N : Nat) (h : Under M N) (hl : N ≤ n) : bitsL M n = bitsL M N := bitsL_none' M N n hl fun i h1 _ => h i h1
theorem bitsL_zero (n : Nat) : bitsL 0 n = [] := by
  unfold bitsL; rw [List.filter_eq_nil_iff]; intro x _; rw [Nat.zero_testBit]; decide
theorem bitsL_congr (M M' n : Nat) (h : ∀ i, i < n → M.testBit i = M'.testBit i) : bitsL M n = bitsL M' n := by
  unfold bitsL
  apply List.filter_congr
  intro x hx
  exact h x (List.mem_range.1 hx)
def Nxt (M p n q : Nat) : Prop := p ≤ q ∧ q < n ∧ M.testBit q = true ∧ ∀ i, p ≤ i → i < q → M.testBit i = false
theorem nxt_snoc {M p n q : Nat} (h : Nxt M p n q) : bitsL M (q + 1) = bitsL M p ++ [q] := by
  obtain ⟨h1, _, h3, h4⟩ := h
  rw [bitsL_succ, if_pos h3, bitsL_none' M p q h1 h4]
theorem bitsL_pre (M p n : Nat) (h : p ≤ n) : ∃ r, bitsL M n = bitsL M p ++ r := by
  have := bitsL_add M p (n - p)
  rw [show p + (n - p) = n by omega] at this
  exact ⟨_, this⟩
theorem nxt_len {M p n q : Nat} (h : Nxt M p n q) : (bitsL M p).length < (bitsL M n).length := by
  obtain ⟨r, hr⟩ := bitsL_pre M (q + 1) n h.2.1
  rw [hr, nxt_snoc h]; simp
theorem nxt_take {M p n q : Nat} (h : Nxt M p n q) : (bitsL M n).take (bitsL M (q + 1)).length = bitsL M (q + 1) := by
  obtain ⟨r, hr⟩ := bitsL_pre M (q + 1) n h.2.1
  rw [hr, List.take_left]
theorem nxt_get {M p n q : Nat} (h : Nxt M p n q) : (bitsL M n).getD (bitsL M p).length 0 = q := by
  obtain ⟨r, hr⟩ := bitsL_pre M (q + 1) n h.2.1
  rw [hr, nxt_snoc h, List.getD_eq_getElem?_getD, List.append_assoc, List.getElem?_append_right (Nat.le_refl _)]; simp
theorem bitsL_put1 (M p n : Nat) (h : M.testBit p = false) (hp : p < n) : bitsL (put1 M p) n = (bitsL M n).take (bitsL M p).length ++ [p] ++ (bitsL M n).drop (bitsL M p).length := by
  have e1 : bitsL (put1 M p) p = bitsL M p := bitsL_congr _ _ _ fun i hi => by rw [put1_bit, decide_eq_false (by omega), Bool.or_false]
  have e2 : bitsL (put1 M p) (p + 1) = bitsL M p ++ [p] := by rw [bitsL_succ, if_pos (by rw [put1_bit, decide_eq_true rfl, Bool.or_true]), e1]
  have e3 := bitsL_add (put1 M p) (p + 1) (n - (p + 1))
  have e4 := bitsL_add M (p + 1) (n - (p + 1))
  rw [show p + 1 + (n - (p + 1)) = n by omega] at e3 e4
  have e5 : bitsL M (p + 1) = bitsL M p := by rw [bitsL_succ, h]; simp
  have e6 : ((List.range (n - (p + 1))).map (p + 1 + ·)).filter (fun i => (put1 M p).testBit i) = ((List.range (n - (p + 1))).map (p + 1 + ·)).filter (fun i => M.testBit i) := by
    apply List.filter_congr
    intro x hx
    obtain ⟨i, _, rfl⟩ := List.mem_map.1 hx
    rw [put1_bit, decide_eq_false (by omega), Bool.or_false]
  rw [e3, e2, e6, e4, e5, List.take_left, List.drop_left]
theorem len_put1 (M p n : Nat) (hp : p < n) : (bitsL (put1 M p) n).length = (bitsL M n).length + (if M.testBit p then 0 else 1) := by
  cases h : M.testBit p with
  | true => rw [put1_same M p h]; simp
  | false =>
    rw [bitsL_put1 M p n h hp]
    simp only [List.length_append, List.length_take, List.length_drop, List.length_cons, List.length_nil]
    obtain ⟨r, hr⟩ := bitsL_pre M p n (by omega)
    rw [hr, List.length_append]
    simp; omega
theorem len_insB (N : Nat) (l : List Nat) (M : Nat) (h0 : 0 < N) : (bitsL M N).length ≤ (bitsL (insB N l M) N).length ∧ (bitsL (insB N l M) N).length ≤ (bitsL M N).length + l.length := by
  induction l generalizing M with
  | nil => exact ⟨Nat.le_refl _, Nat.le_refl _⟩
  | cons b r ih =>
    have h1 := ih (put1 M (b % N))
    have h2 := len_put1 M (b % N) N (Nat.mod_lt _ h0)
    have e : insB N (b :: r) M = insB N r (put1 M (b % N)) := rfl
    rw [e, List.length_cons]
    split at h2 <;> omega
theorem len_fresh (N : Nat) (l : List Nat) (M : Nat) (h0 : 0 < N) : decide ((bitsL (insB N l M) N).length > (bitsL M N).length) = !hasB N l M := by
  induction l generalizing M with
  | nil => show decide ((bitsL M N).length > (bitsL M N).length) = false; exact decide_eq_false (by omega)
  | cons b r ih =>
    have e : insB N (b :: r) M = insB N r (put1 M (b % N)) := rfl
    have e2 : hasB N (b :: r) M = (M.testBit (b % N) && hasB N r M) := by unfold hasB; rw [List.all_cons]
    have h2 := len_put1 M (b % N) N (Nat.mod_lt _ h0)
    rw [e, e2]
    cases h : M.testBit (b % N) with
    | true => rw [put1_same M _ h, ih]; rfl
    | false =>
      rw [h] at h2
      have h3 := (len_insB N r (put1 M (b % N)) h0).1
      simp at h2
      exact decide_eq_true (by omega)
theorem len_words (M k : Nat) : (bitsL M (64 * (k + 1))).length = (bitsL M (64 * k)).length + (bitsL (wrd M k) 64).length := by
  have e := bitsL_add M (64 * k) 64
  rw [show 64 * (k + 1) = 64 * k + 64 by omega, e, List.length_append]
  congr 1
  rw [List.filter_map, List.length_map]
  unfold bitsL
  congr 1
  apply List.filter_congr
  intro x hx
  rw [wrd_bit, decide_eq_true (List.mem_range.1 hx), Bool.true_and]; rfl
end Go.Proofs.YtcgaibkpdihncaaDoor
namespace Go.Proofs.YtcgaibkpdihncaaDoor
open Go.RowKit Go.Lib
set_option maxRecDepth 100000 in
theorem key79 (d : Nat) (b4 b5 b6 b7 b8 b9 b10 b11 b12 b13 b14 b15 : Nat) (hb : ∀ n ∈ [b4, b5, b6, b7, b8, b9, b10, b11, b12, b13, b14, b15], n < 256) : Tryd.prog.keyLits (d + 2) 97 [.int .u8 (b4 : Int), .int .u8 (b5 : Int), .int .u8 (b6 : Int), .int .u8 (b7 : Int), .int .u8 (b8 : Int), .int .u8 (b9 : Int), .int .u8 (b10 : Int), .int .u8 (b11 : Int), .int .u8 (b12 : Int), .int .u8 (b13 : Int), .int .u8 (b14 : Int), .int .u8 (b15 : Int)] = some [.int .u8 (b4 : Int), .int .u8 (b5 : Int), .int .u8 (b6 : Int), .int .u8 (b7 : Int), .int .u8 (b8 : Int), .int .u8 (b9 : Int), .int .u8 (b10 : Int), .int .u8 (b11 : Int), .int .u8 (b12 : Int), .int .u8 (b13 : Int), .int .u8 (b14 : Int), .int .u8 (b15 : Int)] := by
  unfold Program.keyLits
  rw [Tryd.underlying97]
  have hc : Tryd.prog.cellsOf 5 = 1 := by kernel_rfl
  have hc2 : Tryd.prog.cellsOf 97 = 12 := by kernel_rfl
  simp only [List.mem_cons, List.not_mem_nil, or_false, forall_eq_or_imp, forall_eq] at hb
  obtain ⟨h4, h5, h6, h7, h8, h9, h10, h11, h12, h13, h14, h15⟩ := hb
  simp [hc, hc2, List.range_succ, key5 d b4 h4, key5 d b5 h5, key5 d b6 h6, key5 d b7 h7, key5 d b8 h8, key5 d b9 h9, key5 d b10 h10, key5 d b11 h11, key5 d b12 h12, key5 d b13 h13, key5 d b14 h14, key5 d b15 h15]
set_option maxRecDepth 100000 in
theorem key79t : Tryd.prog.keyTypeAt 2 97 = true := by kernel_rfl
set_option maxRecDepth 100000 in
theorem formed79 (b4 b5 b6 b7 b8 b9 b10 b11 b12 b13 b14 b15 : Nat) : (Value.agg #[.int .u8 (b4 : Int), .int .u8 (b5 : Int), .int .u8 (b6 : Int), .int .u8 (b7 : Int), .int .u8 (b8 : Int), .int .u8 (b9 : Int), .int .u8 (b10 : Int), .int .u8 (b11 : Int), .int .u8 (b12 : Int), .int .u8 (b13 : Int), .int .u8 (b14 : Int), .int .u8 (b15 : Int)]).formed Tryd.prog 97 = true := by kernel_rfl
set_option maxRecDepth 100000 in
theorem formed79z : (Value.agg #[.int .u8 0, .int .u8 0, .int .u8 0, .int .u8 0, .int .u8 0, .int .u8 0, .int .u8 0, .int .u8 0, .int .u8 0, .int .u8 0, .int .u8 0, .int .u8 0]).formed Tryd.prog 97 = true := by kernel_rfl
set_option maxRecDepth 100000 in
theorem key79z : Tryd.prog.keyLits 2 97 [.int .u8 0, .int .u8 0, .int .u8 0, .int .u8 0, .int .u8 0, .int .u8 0, .int .u8 0, .int .u8 0, .int .u8 0, .int .u8 0, .int .u8 0, .int .u8 0] = some [.int .u8 0, .int .u8 0, .int .u8 0, .int .u8 0, .int .u8 0, .int .u8 0, .int .u8 0, .int .u8 0, .int .u8 0, .int .u8 0, .int .u8 0, .int .u8 0] := by kernel_rfl
set_option maxRecDepth 100000 in
theorem eq79 (b4 b5 b6 b7 b8 b9 b10 b11 b12 b13 b14 b15 : Nat) (hb : ∀ n ∈ [b4, b5, b6, b7, b8, b9, b10, b11, b12, b13, b14, b15], n < 256) (w : World) :
    (Op.equalIn 10000 97 (.agg #[.int .u8 (b4 : Int), .int .u8 (b5 : Int), .int .u8 (b6 : Int), .int .u8 (b7 : Int), .int .u8 (b8 : Int), .int .u8 (b9 : Int), .int .u8 (b10 : Int), .int .u8 (b11 : Int), .int .u8 (b12 : Int), .int .u8 (b13 : Int), .int .u8 (b14 : Int), .int .u8 (b15 : Int)]) (.agg #[.int .u8 0, .int .u8 0, .int .u8 0, .int .u8 0, .int .u8 0, .int .u8 0, .int .u8 0, .int .u8 0, .int .u8 0, .int .u8 0, .int .u8 0, .int .u8 0])).run Tryd.prog w = .ok (decide ([b4, b5, b6, b7, b8, b9, b10, b11, b12, b13, b14, b15] = List.replicate 12 0)) w := by
  obtain ⟨r, hr, he⟩ := run_equalIn_deep (P := Tryd.prog) 9998 2 97 key79t w 2 2 _ _ _ _ (formed79 b4 b5 b6 b7 b8 b9 b10 b11 b12 b13 b14 b15) formed79z (key79 0 b4 b5 b6 b7 b8 b9 b10 b11 b12 b13 b14 b15 hb) key79z
  refine hr.trans ?_
  congr 1
  by_cases h : [b4, b5, b6, b7, b8, b9, b10, b11, b12, b13, b14, b15] = List.replicate 12 0
  · rw [decide_eq_true h]
    refine he.2 ?_
    simp only [List.replicate, List.cons.injEq, and_true] at h
    obtain ⟨rfl, rfl, rfl, rfl, rfl, rfl, rfl, rfl, rfl, rfl, rfl, rfl⟩ := h
    rfl
  · rw [decide_eq_false h]
    refine Bool.eq_false_iff.2 (fun q => h ?_)
    have q := he.1 q
    simp at q
    simp [List.replicate]
    omega
set_option maxRecDepth 100000 in
theorem sta79 (g : Nat) (W : World) : (Instr.arrayAt 97 (.slice (some ⟨g, 5, none⟩) 12 12)).run Tryd.prog W = .ok (.pointer (some ⟨g, 5, none⟩)) W := by rfl
set_option maxRecDepth 100000 in
set_option maxHeartbeats 1000000 in
theorem valid_any (v : Bool) (D : List Nat) (hl : D.length = 16) (hb : ∀ n ∈ D, n < 256) (w : World) :
    Calls Tryd.prog 43 #[adr v D] w fun e w' => e = .returned (.bool (vldA v D)) ∧ Below w.heap.size w w' := by
  obtain ⟨b0, b1, b2, b3, b4, b5, b6, b7, b8, b9, b10, b11, b12, b13, b14, b15, rfl⟩ := list16 D hl
  have ha : adr v [b0, b1, b2, b3, b4, b5, b6, b7, b8, b9, b10, b11, b12, b13, b14, b15] = .agg #[.bool v, .int .u8 (b0 : Int), .int .u8 (b1 : Int), .int .u8 (b2 : Int), .int .u8 (b3 : Int), .int .u8 (b4 : Int), .int .u8 (b5 : Int), .int .u8 (b6 : Int), .int .u8 (b7 : Int), .int .u8 (b8 : Int), .int .u8 (b9 : Int), .int .u8 (b10 : Int), .int .u8 (b11 : Int), .int .u8 (b12 : Int), .int .u8 (b13 : Int), .int .u8 (b14 : Int), .int .u8 (b15 : Int)] := rfl
  rw [ha]
  have hst := sta79 w.heap.size
  cases v with
  | true =>
    rw [show vldA true [b0, b1, b2, b3, b4, b5, b6, b7, b8, b9, b10, b11, b12, b13, b14, b15] = true from rfl]
    clear hb ha hl
    go_enter Tryd.func43, Tryd.ntmps43
    go_wp2_with fail
    go_ret
    exact ⟨rfl, (Below.refl _ w).alloc (Nat.le_refl _) _⟩
  | false =>
    have hv : vldA false [b0, b1, b2, b3, b4, b5, b6, b7, b8, b9, b10, b11, b12, b13, b14, b15] = decide ([b4, b5, b6, b7, b8, b9, b10, b11, b12, b13, b14, b15] = List.replicate 12 0) := by
      rw [Bool.eq_iff_iff, decide_eq_true_iff]
      constructor
      · intro h
        have h := (vldA_spec.1 h).resolve_left (by decide)
        have q := fun i h1 h2 => h i h1 h2
        simp only [List.replicate, List.cons.injEq, and_true]
        exact ⟨q 4 (by omega) (by omega), q 5 (by omega) (by omega), q 6 (by omega) (by omega), q 7 (by omega) (by omega), q 8 (by omega) (by omega), q 9 (by omega) (by omega), q 10 (by omega) (by omega), q 11 (by omega) (by omega), q 12 (by omega) (by omega), q 13 (by omega) (by omega), q 14 (by omega) (by omega), q 15 (by omega) (by omega)⟩
      · intro h
        simp only [List.replicate, List.cons.injEq, and_true] at h
        obtain ⟨rfl, rfl, rfl, rfl, rfl, rfl, rfl, rfl, rfl, rfl, rfl, rfl⟩ := h
        exact vldA_spec.2 (.inr fun i h1 h2 => by
          have : i = 4 ∨ i = 5 ∨ i = 6 ∨ i = 7 ∨ i = 8 ∨ i = 9 ∨ i = 10 ∨ i = 11 ∨ i = 12 ∨ i = 13 ∨ i = 14 ∨ i = 15 := by omega
          rcases this with rfl | rfl | rfl | rfl | rfl | rfl | rfl | rfl | rfl | rfl | rfl | rfl <;> rfl)
    rw [hv]
    have he := eq79 b4 b5 b6 b7 b8 b9 b10 b11 b12 b13 b14 b15 (fun n hn => hb n (.tail _ (.tail _ (.tail _ (.tail _ hn)))))
    generalize decide ([b4, b5, b6, b7, b8, b9, b10, b11, b12, b13, b14, b15] = List.replicate 12 0) = r at *
    have HE := Lib.hid he
    clear hb ha hl hv he
    go_enter Tryd.func43, Tryd.ntmps43
    have he := HE.out
    clear HE
    go_wp2_with fail
    go_ret
    exact ⟨rfl, (Below.refl _ w).alloc (Nat.le_refl _) _⟩
end Go.Proofs.YtcgaibkpdihncaaDoor
namespace Go.Proofs.YtcgaibkpdihncaaDoor
open Go.RowKit
set_option maxRecDepth 100000 in
theorem Tryd.info5 : (Tryd.prog.info? 5).map (fun i => (i.zero, i.size, i.bytes)) = some (some (.int .u8 0), 1, 1) := by kernel_rfl
set_option maxRecDepth 100000 in
theorem Tryd.size5 : (Tryd.prog.info? 5).map (·.size) = some 1 := by kernel_rfl
set_option maxRecDepth 100000 in
theorem size_made (n : Nat) : (madeCells #[Value.int .u8 0] n).toList.length = n := by rw [toList_madeCells_one]; simp
set_option maxRecDepth 100000 in
theorem splice_made (zs : List Nat) (n len : Nat) (h : len = zs.length) : splice (madeCells #[Value.int .u8 0] (len + n)).toList 0 (nus .u8 zs) = nus .u8 (zs ++ List.replicate n 0) := by
  rw [toList_madeCells_one, nus_append]
  subst h
  simp [splice, nus]
end Go.Proofs.YtcgaibkpdihncaaDoor
namespace Go.Proofs.YtcgaibkpdihncaaDoor
open Go.RowKit
set_option maxRecDepth 100000 in
theorem wpList_app {w : World} {ops : Array Oper} {rest : List Oper} {o : Oper} {a : Act} {Q : Exit → Act → World → Prop} (hw : Region.wanted o (yielded ops a.tmps) = true) (s x : Operand)
    (ho : o.op = .call { callee := .builtin .append, args := #[s, x], argTypes := #[90, 90] })
    (base : Nat) (v : Value) (n : Nat) (zs : List Nat) (hs : a.eval s = v) (hown : w.ownsRow base 5 1 v n (nus .u8 zs))
    (ao : Option Addr) (len cap : Nat) (bs : List Nat) (hx : a.eval x = .slice ao len cap) (hr : Rd w (.slice ao len cap) (nus .u8 bs)) (hn : ao = none → cap = 0) (hlen : n + len ≤ 1000000) (hbase : base ≤ w.heap.size)
    (h : ∀ v' w', w'.ownsRow base 5 1 v' (n + len) (nus .u8 (zs ++ bs)) → w.grownBy w' v.ownBlock → wpList Tryd.prog ops Q rest (a.put o.dst v') w') :
    wpList Tryd.prog ops Q (o :: rest) a w := by
  obtain ⟨i0, hi, hz0, hz1, hz2⟩ := info_parts Tryd.info5
  obtain ⟨a', cap', e, h1, h2, h3⟩ := hr
  simp only [Value.slice.injEq] at e
  obtain ⟨rfl, he, rfl⟩ := e
  rw [nus_length] at he h1 h3
  subst he
  refine BigFrame.wpList_want hw fun K hK => ?_
  cases ao with
  | none =>
    obtain rfl := hn rfl
    have hb : bs = [] := by cases bs with | nil => rfl | cons _ _ => simp at h1
    subst hb
    have hrun := run_append_owned_none (P := Tryd.prog) (w := w) base 90 o.type 5 i0 1 Tryd.underlying90 hi v n (nus .u8 zs) hown
    unfold Oper.wp
    simp [execOp, ho, resolve, invoke, builtin, hs, hx, hrun, Result.andThen]
    exact hK _ _ (h v w (by simpa using hown) (World.grownBy.refl _ _))
  | some ad =>
    refine wp_append_own w s x 90 ho base 5 i0 (.int .u8 0) 1 1 Tryd.underlying90 hi hz0 hz1 hz2 rfl (by decide) v n (nus .u8 zs) hs hown ad bs.length cap (nus .u8 bs) hx (by rw [nus_length]; omega) ?_ (oneCell_nus _ _) (by unfold maxLen; omega) (by omega) hbase ?_
    · intro j u hj
      rcases h3 with h3 | ⟨b, off, e, hb, hcc⟩
      · rw [h3] at hj; simp at hj
      · cases e
        have hjl : j < (nus .u8 bs).length := (List.getElem?_eq_some_iff.1 hj).1
        rw [nus_length] at hjl
        rw [← hj]
        rw [Addr.add_lit]; exact hcc j hjl
    · intro v' w' hown' hgr _
      exact hK _ _ (h v' w' (by rw [nus_append]; exact hown') hgr)
end Go.Proofs.YtcgaibkpdihncaaDoor
namespace Go.Proofs.YtcgaibkpdihncaaDoor
open Go.RowKit
set_option maxRecDepth 100000 in
theorem own_front {w : World} {base g cap : Nat} {e : TypeId} {cur : Array Value} (hg : w.heap[g]? = some (.cells cur e (0, 0))) (hb : base ≤ g) (hc : cur.size = cap) (hm : cap ≤ maxLen) :
    w.ownsRow base e 1 (.slice (some ⟨g, 0, none⟩) 0 cap) 0 (nus .u8 []) :=
  ⟨by simp [nus], .inr ⟨g, cap, cur, rfl, hb, hg, Nat.zero_le _, hm, by simpa using hc, by simp [nus]⟩⟩
set_option maxRecDepth 100000 in
set_option maxHeartbeats 1000000 in
theorem grow_nil (n : Nat) (w : World) (h0 : 0 < n) (hn : n ≤ 1000000) :
    Calls Tryd.prog 62 #[.slice none 0 0, .int .i64 (n : Int)] w fun e w' => ∃ x, e = .returned x ∧ w'.ownsRow w.heap.size 5 1 x 0 (nus .u8 []) ∧ Below w.heap.size w w' := by
  obtain ⟨i, hi, hz, hs, hby⟩ := info_parts Tryd.info5
  have hr := Lib.hid (Lib.run_append_nil_zeros (P := Tryd.prog) w 90 3 90 5 i (.int .u8 0) .i64 .i64 Tryd.underlying90 Tryd.underlying3 hi hz n h0 (by omega) (by omega) (by rw [hby]; omega))
  have hcm := grownCap_le_maxLen w n 0 5 (by unfold maxLen; omega)
  have hge := grownCap_ge w n 0 5
  have hsz : (Builtin.zeroCells (Value.int .u8 0).cells n ++ Builtin.zeroCells (Value.int .u8 0).cells (grownCap w n 0 5 - n)).size = grownCap w n 0 5 := by
    rw [Array.size_append, size_zeroCells, size_zeroCells]
    show n * 1 + (grownCap w n 0 5 - n) * 1 = _
    omega
  generalize Builtin.zeroCells (Value.int .u8 0).cells n ++ Builtin.zeroCells (Value.int .u8 0).cells (grownCap w n 0 5 - n) = cur at *
  have hown := Lib.hid (own_front (base := w.heap.size) (heap_alloc_new w.drew (.cells cur 5)) (Nat.le_refl _) hsz hcm)
  have hbel := Lib.hid ((Below.refl w.heap.size w).drew.alloc (Nat.le_refl _) (.cells cur 5))
  generalize grownCap w n 0 5 = cap at *
  unfold maxLen at hcm
  clear hi hz hs hby hsz
  have hd1 : decide ((n : Int) < 0) = false := decide_eq_false (by omega)
  have hd2 : decide (0 < n) = true := decide_eq_true (by omega)
  go_enter Tryd.func62, Tryd.ntmps62
  go_wp2_with (refine Lib.wpList_append_run _ rfl (.tmp 20) (.tmp 21) 90 3 rfl _ _ rfl rfl _ _ hr.out ?_)
  go_wp2
  go_ret
  exact ⟨_, rfl, hown.out, hbel.out⟩
end Go.Proofs.YtcgaibkpdihncaaDoor
namespace Go.Proofs.YtcgaibkpdihncaaDoor
open Go.RowKit
def csN (n : Nat → Nat) : Nat → Nat
  | 0 => 0
  | j + 1 => csN n j + n j
def crN (z : Nat → List Nat) : Nat → List Nat
  | 0 => []
  | j + 1 => crN z j ++ z j
set_option maxRecDepth 100000 in
theorem csN_le (n : Nat → Nat) {j k : Nat} (h : j ≤ k) : csN n j ≤ csN n k := by
  induction h with
  | refl => exact Nat.le_refl _
  | step _ ih => exact Nat.le_trans ih (Nat.le_add_right _ _)
set_option maxRecDepth 100000 in
theorem lt_cell {w : World} {b o : Nat} {v : Value} (h : w.cell? ⟨b, o, none⟩ = some v) : b < w.heap.size := by
  rcases Nat.lt_or_ge b w.heap.size with q | q
  · exact q
  · simp [World.cell?, Array.getElem?_eq_none q] at h
end Go.Proofs.YtcgaibkpdihncaaDoor
namespace Go.Proofs.YtcgaibkpdihncaaDoor
open Go.RowKit
set_option maxRecDepth 100000 in
set_option maxHeartbeats 2000000 in
theorem concat_any (cnt : Nat) (hcnt : cnt ≤ 1000) (b : Nat) (a : Nat → Option Addr) (n c : Nat → Nat) (z : Nat → List Nat) (w : World)
    (hc : ∀ j, j < cnt → w.cell? ⟨b, j, none⟩ = some (.slice (a j) (n j) (c j))) (hr : ∀ j, j < cnt → Rd w (.slice (a j) (n j) (c j)) (nus .u8 (z j)))
    (h0 : ∀ j, j < cnt → a j = none → c j = 0) (hl : ∀ j, j < cnt → (z j).length = n j) (hp : 0 < csN n cnt) (hm : csN n cnt ≤ 1000000) :
    Calls Tryd.prog 57 #[.slice (some ⟨b, 0, none⟩) cnt cnt] w fun e w' => ∃ x, e = .returned x ∧ w'.ownsRow w.heap.size 5 1 x (csN n cnt) (nus .u8 (crN z cnt)) ∧ Below w.heap.size w w' := by
  have hb : b < w.heap.size := by
    rcases Nat.eq_zero_or_pos cnt with q | q
    · rw [q] at hp; exact absurd hp (by simp [csN])
    · exact lt_cell (hc 0 q)
  have C := Lib.hid hc
  have H := Lib.hid hr
  have H0 := Lib.hid h0
  have HL := Lib.hid hl
  have M := Lib.hid (fun (j : Nat) (h : j ≤ cnt) => Nat.le_trans (csN_le n h) hm)
  obtain ⟨N, hN⟩ : ∃ N, N = csN n cnt := ⟨_, rfl⟩
  have HN := Lib.hid hN
  have hd1 : decide ((N : Int) < 0) = false := decide_eq_false (by omega)
  rw [← hN] at hp hm ⊢
  clear hc hr h0 hl hN
  go_enter Tryd.func57, Tryd.ntmps57
  go_wp2_with fail
  go_loop [3, 11] (fun s i => ∃ j : Nat, j ≤ cnt ∧ i = .int .i64 (j : Int) ∧ s = .int .i64 (csN n j : Nat)) (fun _ i => cnt - (intOf i).toNat)
  case atStart => exact ⟨0, by omega, rfl, rfl⟩
  case round =>
    obtain ⟨j, hj, rfl, rfl⟩ := hrel
    by_cases hjc : j < cnt
    · have c0 := C.out j hjc
      have m0 := M.out j hj
      have m1 := M.out (j + 1) hjc
      rw [csN] at m1
      have e1 : IntKind.i64.wrap ((csN n j : Int) + (n j : Int)) = ((csN n (j + 1) : Nat) : Int) := by rw [IntKind.wrap_i64, csN]; omega
      have E1 := Lib.hid e1
      have j1 : (j : Int) < (cnt : Int) := by omega
      have d1 : decide (((csN n (j + 1) : Nat) : Int) < 0) = false := decide_eq_false (by omega)
      have HT := Lib.hid (show ∃ T, T = csN n (j + 1) from ⟨_, rfl⟩)
      obtain ⟨T, hT⟩ := HT.out
      have HT := Lib.hid hT
      rw [← hT] at e1 d1
      clear E1 hT
      generalize csN n j = S at *
      generalize n j = m at *
      go_wp2
      go_round
      case rel => exact ⟨j + 1, by omega, by go_num, by rw [HT.out]⟩
      case measure => simp [intOf]; omega
    · obtain rfl : cnt = j := by omega
      rw [← HN.out]
      go_wp2_with fail
      refine (grow_nil N w hp hm).mono ?_; rintro e w1 ⟨x, rfl, ho, hbw⟩
      have O := Lib.hid ho
      have B := Lib.hid hbw
      clear ho hbw hd1
      go_wp2_with fail
      go_loopw [6, 27] (fun s i wr => ∃ j : Nat, j ≤ cnt ∧ i = .int .i64 (j : Int) ∧ wr.ownsRow w.heap.size 5 1 s (csN n j) (nus .u8 (crN z j)) ∧ Below w.heap.size w wr) (fun _ i _ => cnt - (intOf i).toNat)
      case atStart => exact ⟨0, by omega, rfl, O.out, B.out⟩
      case round =>
        obtain ⟨j, hj, rfl, ho, hbw⟩ := hrel
        have OJ := Lib.hid ho
        have BJ := Lib.hid hbw
        clear ho hbw
        by_cases hjc : j < cnt
        · have c0 := (BJ.out.cell (p := ⟨b, j, none⟩) hb).trans (C.out j hjc)
          have R1 := Lib.hid ((H.out j hjc).below BJ.out)
          have m0 := M.out j hj
          have hl := HL.out j hjc
          have h0 := Lib.hid (H0.out j hjc)
          have b0 := BJ.out.size
          have m1 := M.out (j + 1) hjc
          rw [csN] at m1
          have j1 : (j : Int) < (cnt : Int) := by omega
          have EC : Hid (csN n (j + 1) = csN n j + n j) := rfl
          have ER : Hid (crN z (j + 1) = crN z j ++ z j) := rfl
          obtain ⟨T, hT⟩ : ∃ T, T = csN n (j + 1) := ⟨_, rfl⟩
          obtain ⟨U, hU⟩ : ∃ U, U = crN z (j + 1) := ⟨_, rfl⟩
          rw [← hT] at EC
          rw [← hU] at ER
          have HT := Lib.hid hT
          have HU := Lib.hid hU
          clear hT hU
          generalize csN n j = S at *
          generalize crN z j = X at *
          generalize n j = m at *
          generalize z j = Y at *
          generalize a j = A at *
          generalize c j = k at *
          subst hl
          go_wp2_with (at_builtin; refine wpList_app rfl (.tmp 31) (.tmp 32) rfl w.heap.size _ S X rfl OJ.out A Y.length k Y rfl R1.out h0.out ?x0a ?x0b ?x0c)
          case x0a => omega
          case x0b => exact b0
          intro v2 w2 o2 g2
          have K2 := Lib.hid (BJ.out.grown g2 BJ.out.size (fun k e => (OJ.out.lt k e).1))
          have O2 : Hid (w2.ownsRow w.heap.size 5 1 v2 T (nus .u8 U)) := by show World.ownsRow _ _ _ _ _ _ _; rw [EC.out, ER.out]; exact o2
          clear o2 g2 c0 EC ER
          go_wp2
          go_roundw
          case rel => exact ⟨j + 1, by omega, by go_num, by rw [← HT.out, ← HU.out]; exact O2.out, K2.out⟩
          case measure => simp [intOf]; omega
        · obtain rfl : cnt = j := by omega
          rw [← HN.out] at OJ
          have O1 := Lib.hid OJ.out
          clear OJ hj hjc
          go_wp2
          go_ret
          exact ⟨_, rfl, O1.out, BJ.out⟩
set_option maxRecDepth 100000 in
theorem concat_3 (b : Nat) (a0 a1 a2 : Option Addr) (n0 n1 n2 c0 c1 c2 : Nat) (z0 z1 z2 : List Nat) (w : World) (B : Blk w b 90 #[.slice a0 n0 c0, .slice a1 n1 c1, .slice a2 n2 c2])
    (r0 : Rd w (.slice a0 n0 c0) (nus .u8 z0)) (r1 : Rd w (.slice a1 n1 c1) (nus .u8 z1)) (r2 : Rd w (.slice a2 n2 c2) (nus .u8 z2))
    (h0 : a0 = none → c0 = 0) (h1 : a1 = none → c1 = 0) (h2 : a2 = none → c2 = 0) (l0 : z0.length = n0) (l1 : z1.length = n1) (l2 : z2.length = n2) (hp : 0 < n0) (hm : n0 + n1 + n2 ≤ 1000000) :
    Calls Tryd.prog 57 #[.slice (some ⟨b, 0, none⟩) 3 3] w fun e w' => ∃ x, e = .returned x ∧ w'.ownsRow w.heap.size 5 1 x (n0 + n1 + n2) (nus .u8 (z0 ++ (z1 ++ z2))) ∧ Below w.heap.size w w' := by
  have := concat_any 3 (by omega) b (fun j => match j with | 0 => a0 | 1 => a1 | _ => a2) (fun j => match j with | 0 => n0 | 1 => n1 | _ => n2) (fun j => match j with | 0 => c0 | 1 => c1 | _ => c2) (fun j => match j with | 0 => z0 | 1 => z1 | _ => z2) w
    (fun j hj => by match j, hj with | 0, _ => exact B.cell 0 | 1, _ => exact B.cell 1 | 2, _ => exact B.cell 2)
    (fun j hj => by match j, hj with | 0, _ => exact r0 | 1, _ => exact r1 | 2, _ => exact r2)
    (fun j hj => by match j, hj with | 0, _ => exact h0 | 1, _ => exact h1 | 2, _ => exact h2)
    (fun j hj => by match j, hj with | 0, _ => exact l0 | 1, _ => exact l1 | 2, _ => exact l2)
    (by simp only [csN]; omega) (by simp only [csN]; omega)
  simpa [csN, crN] using this
end Go.Proofs.YtcgaibkpdihncaaDoor
namespace Go.Proofs.YtcgaibkpdihncaaDoor
open Go.RowKit
set_option maxRecDepth 10000 in
set_option maxHeartbeats 400000 in
theorem len64_16 (w : World) :
    Calls Tryd.prog 66 #[.int .u64 65535] w fun e w' => e = .returned (.int .i64 16) ∧ w = w' := by
  go_enter Tryd.func66, Tryd.ntmps66
  go_wp2_with fail
  go_ret
  exact ⟨by kernel_rfl, rfl⟩
set_option maxRecDepth 10000 in
set_option maxHeartbeats 400000 in
theorem size16_any (w : World) :
    Calls Tryd.prog 64 #[] w fun e w' => e = .returned (.int .i64 2) ∧ w = w' := by
  go_enter Tryd.func64, Tryd.ntmps64
  go_wp2_with (go_at_call 66; refine (len64_16 _).mono ?_; rintro e w' ⟨rfl, rfl⟩)
  go_ret
  exact ⟨rfl, rfl⟩
set_option maxRecDepth 100000 in
set_option maxHeartbeats 400000 in
theorem fits16_pos (a : Option Addr) (len cap : Nat) (at0 : Int) (w : World) (hl : len ≤ maxLen) (h0 : 0 ≤ at0) :
    Calls Tryd.prog 67 #[.slice a len cap, .int .i64 at0] w fun e w' => e = .returned (.bool (decide (at0 ≤ (len : Int) - 2))) ∧ w = w' := by
  unfold maxLen at hl
  go_enter Tryd.func67, Tryd.ntmps67
  go_wp2_with (go_at_call 64; refine (size16_any _).mono ?_; rintro e w' ⟨rfl, rfl⟩)
  go_ret
  exact ⟨rfl, rfl⟩
end Go.Proofs.YtcgaibkpdihncaaDoor
namespace Go.Proofs.YtcgaibkpdihncaaDoor
open Go.RowKit
set_option maxRecDepth 100000 in
set_option maxHeartbeats 400000 in
theorem put16_yes (g n cap base : Nat) (k v : Nat) (zs : List Nat) (w : World) (hown : w.ownsRow base 5 1 (.slice (some ⟨g, 0, none⟩) n cap) n (nus .u8 zs)) (hn : n ≤ maxLen) (hk : k + 2 ≤ n) (hv : v < 65536) :
    Calls Tryd.prog 65 #[.slice (some ⟨g, 0, none⟩) n cap, .int .i64 k, .int .u16 v] w fun e w' => e = .returned (.bool true) ∧ w'.ownsRow base 5 1 (.slice (some ⟨g, 0, none⟩) n cap) n (nus .u8 (putRow zs k 2 v 2)) ∧ w.grownBy w' (some g) := by
  have hzl : zs.length = n := by have := hown.1; simpa [nus_length] using this
  unfold maxLen at hn
  have hfit : decide ((k : Int) ≤ (n : Int) - 2) = true := by simp; omega
  have HO := Lib.hid hown
  have HZ := Lib.hid hzl
  clear hown hzl
  go_enter Tryd.func65, Tryd.ntmps65
  go_wp2_with (first
    | (go_at_call 67; refine (fits16_pos _ _ _ _ _ (by unfold maxLen; omega) (by omega)).mono ?_; rintro e w' ⟨rfl, rfl⟩; rw [hfit])
    | (go_at_call 64; refine (size16_any _).mono ?_; rintro e w' ⟨rfl, rfl⟩))
  go_loopw [7, 8] (fun r i wr => ∃ j : Nat, j ≤ 2 ∧ r = .int .u64 ((v / 256 ^ j : Nat) : Int) ∧ i = .int .i64 ((k : Int) + 2 - 1 - j) ∧ wr.ownsRow base 5 1 (.slice (some ⟨g, 0, none⟩) n cap) n (nus .u8 (putRow zs k 2 v j)) ∧ w.grownBy wr (some g)) (fun _ i _ => (intOf i + 1 - k).toNat)
  case atStart => exact ⟨0, by omega, by simp, by simp, by rw [putRow_zero]; exact HO.out, World.grownBy.refl _ _⟩
  case round =>
    obtain ⟨j, hj, rfl, rfl, hown, hgr⟩ := hrel
    by_cases h1 : j < 2
    · obtain ⟨r, hr⟩ : ∃ r, r = v / 256 ^ j := ⟨_, rfl⟩
      obtain ⟨p, hp⟩ : ∃ p : Nat, (k : Int) + 2 - 1 - j = p := ⟨k + 2 - 1 - j, by omega⟩
      have hpk : k ≤ p ∧ p < k + 2 := by omega
      have hrv : r < 18446744073709551616 := by have := Nat.div_le_self v (256 ^ j); omega
      have hcell := hown.cellAt p (by omega)
      rw [nus_get _ _ _ (by rw [putRow_length _ _ _ _ _ (by rw [HZ.out]; exact hk) hj, HZ.out]; omega)] at hcell
      have hfz := hown.frozenAt p
      have hst := hown.stored p (.int .u8 ((r % 256 : Nat) : Int))
      have hstep := putRow_step zs k 2 v j (by rw [HZ.out]; exact hk) h1
      rw [← hr, show k + 2 - 1 - j = p from by omega] at hstep
      rw [nus_set, hstep] at hst
      have hr2 : r / 256 = v / 256 ^ (j + 1) := by rw [hr, Nat.div_div_eq_div_mul, Nat.pow_succ]
      rw [← hr, hp]
      obtain ⟨x, hx⟩ : ∃ x, x = (putRow zs k 2 v j).getD p 0 := ⟨_, rfl⟩
      rw [← hx] at hcell
      have HS := Lib.hid hst
      have HP := Lib.hid hp
      have HR := Lib.hid hr2
      clear hown hst hstep hp hr hr2 hx
      go_wp2
      go_roundw
      case rel => exact ⟨j + 1, by omega, by rw [← HR.out]; go_num, by have := HP.out; go_num, HS.out.1, grownBy_trans hgr HS.out.2⟩
      case measure => have := HP.out; simp [intOf]; omega
    · obtain rfl : j = 2 := by omega
      go_wp2
      go_ret
      exact ⟨rfl, hown, hgr⟩
end Go.Proofs.YtcgaibkpdihncaaDoor
namespace Go.Proofs.YtcgaibkpdihncaaDoor
open Go.RowKit
set_option maxRecDepth 100000 in
set_option maxHeartbeats 400000 in
theorem app16_any (va : Value) (zs : List Nat) (v : Nat) (w : World) (hr : Rd w va (nus .u8 zs)) (hz : zs.length ≤ 140737488351232) (hv : v < 65536) :
    Calls Tryd.prog 59 #[va, .int .u16 v] w fun e w' => ∃ x, e = .returned x ∧ w'.ownsRow w.heap.size 5 1 x (zs.length + 2) (nus .u8 (zs ++ bg 2 v)) ∧ Below w.heap.size w w' := by
  obtain ⟨i0, hi, hz0, hz1, hz2⟩ := info_parts Tryd.info5
  obtain ⟨a, cap, rfl, hlc, hl, hx⟩ := hr
  rw [nus_length] at hlc hx ⊢
  obtain ⟨len, hlen⟩ : ∃ len, len = zs.length := ⟨_, rfl⟩
  rw [← hlen] at hlc hx hz ⊢
  have HL := Lib.hid hlen
  have HX := Lib.hid hx
  clear hlen hx
  unfold maxLen at hl
  go_enter Tryd.func59, Tryd.ntmps59
  have hbase : w.heap.size ≤ w.heap.size := Nat.le_refl _
  go_wp2_with (first
    | (go_at_call 64; refine (size16_any _).mono ?_; rintro e w' ⟨rfl, rfl⟩)
    | (at_make; refine wpList_make_full _ rfl _ _ 90 rfl w.heap.size 5 i0 (.int .u8 0) 1 Tryd.underlying90 hi hz0 hz1 .i64 .i64 _ _ (len + 2) rfl rfl ?c1 ?c2 ?c3 ?c4 hbase ?_))
  case c1 => omega
  case c2 => omega
  case c3 => rw [hz2]; omega
  case c4 => unfold maxLen; omega
  intro w1 hown hgr
  have hb1 : Below w.heap.size w w1 := (Below.refl _ _).grown hgr (Nat.le_refl _) (fun k hk => by cases hk)
  obtain ⟨hh, _⟩ := own_heap hown
  have hrd : Rd w1 (.slice a len cap) (nus .u8 zs) := (show Rd w (.slice a len cap) (nus .u8 zs) from ⟨a, cap, by rw [nus_length, HL.out], by rw [nus_length, ← HL.out]; exact hlc, hl, by rw [nus_length, ← HL.out]; exact HX.out⟩).below hb1
  have hsrc := Lib.hid hrd.src
  have HH := Lib.hid hh
  have HB1 := Lib.hid hb1
  clear hh hown hgr hrd hb1
  go_wp2_with (with_reducible refine wpList_copy_splice rfl (.tmp 11) (.tmp 12) 90 90 rfl 5 Tryd.underlying90 Tryd.size5 _ _ _ _ _ _ rfl rfl w.heap.size 0 _ 5 HH.out (nus .u8 zs) ?d1 ?d2 ?d3 (oneCell_nus _ _) w.heap.size w HB1.out (Nat.le_refl _) ?_)
  case d1 => rw [nus_length, ← HL.out]; exact (Nat.min_eq_left (by omega)).symm
  case d2 => exact hsrc.out
  case d3 => rw [nus_length, ← HL.out, size_made]; omega
  intro w2 h2 hb2
  have hh2 := h2.out
  rw [splice_made zs 2 _ HL.out] at hh2
  have hown2 := own_of_heap (base := w.heap.size) (n := len + 2) hh2 (Nat.le_refl _) (by rw [nus_length, List.length_append, List.length_replicate, ← HL.out]) (by unfold maxLen; omega)
  have HO := Lib.hid hown2
  have HB2 := Lib.hid hb2
  clear hh2 hown2 h2 hb2 hsrc HH HB1 HX
  go_wp2_with (go_at_call 65; (refine (put16_yes w.heap.size (len + 2) (len + 2) w.heap.size len v _ _ HO.out (by unfold maxLen; omega) (Nat.le_refl _) hv).mono ?_); rintro e w3 ⟨rfl, hown3, hgr3⟩)
  go_ret
  refine ⟨_, rfl, ?_, HB2.out.grown hgr3 HB2.out.size (fun k hk => by cases hk; exact Nat.le_refl _)⟩
  rw [putRow_app zs 2 v len HL.out] at hown3
  exact hown3
end Go.Proofs.YtcgaibkpdihncaaDoor
namespace Go.Proofs.YtcgaibkpdihncaaDoor
open Go.RowKit
def gr (u : Nat) : Nat := if u = 0 then 0 else (u - 1) % 65535 + 1
def w2 (E : List Nat) (j : Nat) : Nat := E.getD (2 * j) 0 * 256 + E.getD (2 * j + 1) 0
end Go.Proofs.YtcgaibkpdihncaaDoor
namespace Go.Proofs.YtcgaibkpdihncaaDoor
open Go.RowKit
set_option maxRecDepth 100000 in
theorem own_at {w : World} {base n : Nat} {e : TypeId} {v : Value} {xs : List Value} (h : w.ownsRow base e 1 v n xs) (h0 : 0 < n) : ∃ g cap, v = .slice (some ⟨g, 0, none⟩) n cap ∧ n ≤ cap ∧ cap ≤ maxLen ∧ base ≤ g ∧ g < w.heap.size := by
  rcases h.2 with ⟨-, h1⟩ | ⟨g, cap, cur, rfl, hg, h2, hnc, hcm, _⟩
  · omega
  · exact ⟨g, cap, rfl, hnc, hcm, hg, (Array.getElem?_eq_some_iff.1 h2).1⟩
end Go.Proofs.YtcgaibkpdihncaaDoor
namespace Go.Proofs.YtcgaibkpdihncaaDoor
open Go.RowKit
set_option maxRecDepth 100000 in
theorem wpAnyH_mono {P : Program} {ops : Array Oper} {Q : Exit → Act → World → Prop} {md : Region.Mode} {S S' : World → Prop} (hS : ∀ w, S' w → S w) :
    ∀ (fuel : Nat) (listed : Array Bool) (a : Act) (w : World), wpAnyH P md ops Q S' fuel listed a w → wpAnyH P md ops Q S fuel listed a w
  | 0, _, _, _, h => h
  | _ + 1, _, _, _, h => ⟨h.1, fun i hi => wpOp_mono (fun _ _ h' => ⟨hS _ h'.1, wpAnyH_mono hS _ _ _ _ h'.2⟩) (h.2 i hi)⟩
end Go.Proofs.YtcgaibkpdihncaaDoor
namespace Go.Proofs.YtcgaibkpdihncaaDoor
open Go.RowKit
set_option maxRecDepth 100000 in
theorem same_below {P : Program} {f : Nat} {args : Array Value} {W : World} {x : Ending} (h : Calls P f args W fun e w' => e = x ∧ W = w') : Calls P f args W fun e w' => e = x ∧ Below W.heap.size W w' :=
  h.mono fun _ _ ⟨h1, h2⟩ => ⟨h1, h2 ▸ Below.refl _ _⟩
end Go.Proofs.YtcgaibkpdihncaaDoor
namespace Go.Proofs.YtcgaibkpdihncaaDoor
theorem nxt_or (M N : Nat) : ∀ (d t : Nat), N - t = d → t ≤ N → (∃ q, Nxt M t N q) ∨ (∀ i, t ≤ i → i < N → M.testBit i = false)
  | 0, t, hd, h => .inr fun i h1 h2 => by omega
  | d + 1, t, hd, h => by
    cases hb : M.testBit t with
    | true => exact .inl ⟨t, Nat.le_refl _, by omega, hb, fun i h1 h2 => by omega⟩
    | false =>
      rcases nxt_or M N d (t + 1) (by omega) (by omega) with ⟨q, h1, h2, h3, h4⟩ | hn
      · exact .inl ⟨q, by omega, h2, h3, fun i hi1 hi2 => by
          by_cases e : i = t
          · subst e; exact hb
          · exact h4 i (by omega) hi2⟩
      · exact .inr fun i hi1 hi2 => by
          by_cases e : i = t
          · subst e; exact hb
          · exact hn i (by omega) hi2
theorem nxt_more (M N t : Nat) (h : t ≤ N) (hl : (bitsL M t).length < (bitsL M N).length) : ∃ q, Nxt M t N q := by
  rcases nxt_or M N _ t rfl h with h1 | h1
  · exact h1
  · rw [bitsL_none' M t N h h1] at hl; omega
theorem nxt_end (M N t : Nat) (h : t ≤ N) (hl : (bitsL M t).length = (bitsL M N).length) : ∀ i, t ≤ i → i < N → M.testBit i = false := by
  rcases nxt_or M N _ t rfl h with ⟨q, hq⟩ | h1
  · have := nxt_len hq; omega
  · exact h1
def Both (X Y Z : Nat) : Prop := ∀ q, Z.testBit q = (X.testBit q || Y.testBit q)
theorem Both.symm {X Y Z : Nat} (h : Both X Y Z) : Both Y X Z := fun q => by rw [h q, Bool.or_comm]
theorem merge_one {X Y Z N t q : Nat} (hB : Both X Y Z) (hx : Nxt X t N q) (hy : ∀ i, t ≤ i → i < q + 1 → Y.testBit i = false) :
    (bitsL X (q + 1)).length = (bitsL X t).length + 1 ∧ (bitsL Y (q + 1)).length = (bitsL Y t).length ∧ bitsL Z (q + 1) = bitsL Z t ++ [q] ∧ q + 1 ≤ N := by
  have h1 := nxt_snoc hx
  have h2 := bitsL_none' Y t (q + 1) (by have := hx.1; omega) hy
  have h3 : Nxt Z t N q := ⟨hx.1, hx.2.1, by rw [hB q, hx.2.2.1, Bool.true_or], fun i i1 i2 => by rw [hB i, hx.2.2.2 i i1 i2, hy i i1 (by omega)]; rfl⟩
  exact ⟨by rw [h1]; simp, by rw [h2], nxt_snoc h3, hx.2.1⟩
theorem merge_two {X Y Z N t q : Nat} (hB : Both X Y Z) (hx : Nxt X t N q) (hy : Nxt Y t N q) :
    (bitsL X (q + 1)).length = (bitsL X t).length + 1 ∧ (bitsL Y (q + 1)).length = (bitsL Y t).length + 1 ∧ bitsL Z (q + 1) = bitsL Z t ++ [q] ∧ q + 1 ≤ N := by
  have h3 : Nxt Z t N q := ⟨hx.1, hx.2.1, by rw [hB q, hx.2.2.1, Bool.true_or], fun i i1 i2 => by rw [hB i, hx.2.2.2 i i1 i2, hy.2.2.2 i i1 i2]; rfl⟩
  exact ⟨by rw [nxt_snoc hx]; simp, by rw [nxt_snoc hy]; simp, nxt_snoc h3, hx.2.1⟩
theorem merge_end {X Y Z N t : Nat} (hB : Both X Y Z) (h : t ≤ N) (hx : (bitsL X t).length = (bitsL X N).length) (hy : (bitsL Y t).length = (bitsL Y N).length) : bitsL Z t = bitsL Z N := by
  have h1 := nxt_end X N t h hx
  have h2 := nxt_end Y N t h hy
  exact (bitsL_none' Z t N h fun i i1 i2 => by rw [hB i, h1 i i1 i2, h2 i i1 i2]; rfl).symm
end Go.Proofs.YtcgaibkpdihncaaDoor
