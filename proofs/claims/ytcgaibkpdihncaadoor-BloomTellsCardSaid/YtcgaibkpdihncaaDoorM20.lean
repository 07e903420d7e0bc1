/- Texts that the walks of this seat lean on, put together. -/
import Derived.Lib.TrailingZeros
import Derived.WalkKit
import Derived.LoopTactic
import Derived.Handy
import Derived.Lib.Hide
import Derived.Laws.CopyOwn
import Derived.BigQuiet
import Derived.Deep.QuietTactic
import Derived.KernelRfl
import Derived.Lib.AppendZeros
import Derived.Lib.AppendZerosOnto
import Derived.Laws.AppendOwnNone
import Derived.BigFrame
import Derived.WalkSpells
import Derived.WalkLawsBesides
import Derived.RangeFuncNested
import Derived.RangeFuncBound
import Derived.RangeFuncCalls
import Derived.RangeFuncLeaves
import Derived.RangeFuncBox
import Derived.Shelf.Abstract
import Derived.Shelf.RegionOpen
import Derived.OwnWalkIn
import Derived.TacticsInMore
import Derived.LoopNIn
import Derived.LoopIn
import Derived.Maps.AppendAt
import Derived.WalkSmall
import Derived.Lib.QuietBelow
import Derived.Deep.RegionHeld
import Derived.Below
import Derived.Tactics
import Derived.Test.YtcgaibkpdihncaaDoorTk
import Derived.Test.YtcgaibkpdihncaaDoorM01
import Derived.Test.YtcgaibkpdihncaaDoorM02
import Derived.Test.YtcgaibkpdihncaaDoorM03
import Derived.Test.YtcgaibkpdihncaaDoorM04
import Derived.Test.YtcgaibkpdihncaaDoorM05
import Derived.Test.YtcgaibkpdihncaaDoorM08
import Derived.Test.YtcgaibkpdihncaaDoorM10
import Derived.Test.YtcgaibkpdihncaaDoorM11
import Derived.Test.YtcgaibkpdihncaaDoorM12
import Derived.Test.YtcgaibkpdihncaaDoorProg
namespace Go.Proofs.YtcgaibkpdihncaaDoor
def bitsL (M n : Nat) : List Nat := (List.range n).filter fun i => M.testBit i
def wrd (M i : Nat) : Nat := M / 2 ^ (64 * i) % 18446744073709551616
def wrds (M L : Nat) : List Nat := (List.range L).map (wrd M)
def put1 (M p : Nat) : Nat := M ||| 2 ^ p
def insB (N : Nat) (l : List Nat) (M : Nat) : Nat := l.foldl (fun M b => put1 M (b % N)) M
def hasB (N : Nat) (l : List Nat) (M : Nat) : Bool := l.all fun b => M.testBit (b % N)
theorem put1_bit (M p q : Nat) : (put1 M p).testBit q = (M.testBit q || decide (p = q)) := by
  unfold put1; rw [Nat.testBit_or, Nat.testBit_two_pow]
theorem insB_bit (N : Nat) (l : List Nat) (M q : Nat) : (insB N l M).testBit q = (M.testBit q || l.any fun b => decide (b % N = q)) := by
  induction l generalizing M with
  | nil => simp [insB]
  | cons b r ih =>
    show (insB N r (put1 M (b % N))).testBit q = _
    rw [ih, put1_bit, List.any_cons, Bool.or_assoc]
theorem insB_snoc (N : Nat) (l : List Nat) (b M : Nat) : insB N (l ++ [b]) M = put1 (insB N l M) (b % N) := by
  unfold insB; rw [List.foldl_append]; rfl
theorem hasB_snoc (N : Nat) (l : List Nat) (b M : Nat) : hasB N (l ++ [b]) M = (hasB N l M && M.testBit (b % N)) := by
  unfold hasB; rw [List.all_append]; simp
theorem put1_same (M p : Nat) (h : M.testBit p = true) : put1 M p = M := by
  apply Nat.eq_of_testBit_eq; intro q
  rw [put1_bit]
  by_cases e : p = q
  · subst e; simp [h]
  · simp [e]
theorem insB_has (N : Nat) (l : List Nat) (M : Nat) (h : hasB N l M = true) : insB N l M = M := by
  apply Nat.eq_of_testBit_eq; intro q
  rw [insB_bit]
  cases hq : M.testBit q with
  | true => rfl
  | false =>
    rw [Bool.false_or, Bool.eq_false_iff]
    intro hc
    obtain ⟨b, hb, he⟩ := List.any_eq_true.1 hc
    have := List.all_eq_true.1 h b hb
    rw [of_decide_eq_true he, hq] at this
    exact absurd this (by decide)
theorem fresh_next (N : Nat) (l : List Nat) (b M : Nat) : (!hasB N (l ++ [b]) M) = (!hasB N l M || !(insB N l M).testBit (b % N)) := by
  rw [hasB_snoc]
  cases h : hasB N l M with
  | false => rfl
  | true => rw [insB_has N l M h]; simp
theorem hasB_ins (N : Nat) (l : List Nat) (M : Nat) : hasB N l (insB N l M) = true := by
  unfold hasB
  rw [List.all_eq_true]
  intro b hb
  rw [insB_bit, Bool.or_eq_true]
  exact .inr (List.any_eq_true.2 ⟨b, hb, decide_eq_true rfl⟩)
theorem hasB_zero (N : Nat) (l : List Nat) (h : l ≠ []) : hasB N l 0 = false := by
  cases l with
  | nil => exact absurd rfl h
  | cons b r => unfold hasB; simp
def Under (M n : Nat) : Prop := ∀ q, n ≤ q → M.testBit q = false
theorem under_zero (n : Nat) : Under 0 n := fun q _ => Nat.zero_testBit q
theorem under_insB {N M : Nat} (l : List Nat) (h : Under M N) (h0 : 0 < N) : Under (insB N l M) N := by
  intro q hq
  rw [insB_bit, h q hq, Bool.false_or, Bool.eq_false_iff]
  intro hc
  obtain ⟨b, _, he⟩ := List.any_eq_true.1 hc
  have h1 := of_decide_eq_true he
  have h2 := Nat.mod_lt b h0
  omega
theorem wrd_lt (M i : Nat) : wrd M i < 18446744073709551616 := Nat.mod_lt _ (by decide)
theorem wrd_bit (M i j : Nat) : (wrd M i).testBit j = (decide (j < 64) && M.testBit (64 * i + j)) := by
  unfold wrd
  rw [show (18446744073709551616 : Nat) = 2 ^ 64 from rfl, Nat.testBit_mod_two_pow, Nat.testBit_div_two_pow, Nat.add_comm j]
theorem wrds_len (M L : Nat) : (wrds M L).length = L := by unfold wrds; rw [List.length_map, List.length_range]
theorem wrds_get (M L i : Nat) (h : i < L) : (wrds M L).getD i 0 = wrd M i := by
  unfold wrds
  rw [List.getD_eq_getElem?_getD, List.getElem?_map, List.getElem?_range h]; rfl
theorem wrd_put1 (M p i : Nat) : wrd (put1 M p) i = if i = p / 64 then wrd M i ||| 2 ^ (p % 64) else wrd M i := by
  apply Nat.eq_of_testBit_eq; intro j
  have hm : p % 64 < 64 := Nat.mod_lt _ (by decide)
  have hd : p = 64 * (p / 64) + p % 64 := by omega
  by_cases e : i = p / 64
  · rw [if_pos e, wrd_bit, put1_bit, Nat.testBit_or, wrd_bit, Nat.testBit_two_pow]
    by_cases hj : j < 64
    · rw [decide_eq_true hj, Bool.true_and, Bool.true_and]
      congr 1
      rw [Bool.eq_iff_iff, decide_eq_true_iff, decide_eq_true_iff]
      omega
    · rw [decide_eq_false hj, Bool.false_and, Bool.false_and, Bool.false_or]
      exact (decide_eq_false (by omega)).symm
  · rw [if_neg e, wrd_bit, put1_bit, wrd_bit]
    by_cases hj : j < 64
    · rw [decide_eq_false (show ¬ p = 64 * i + j by omega), Bool.or_false]
    · rw [decide_eq_false hj, Bool.false_and, Bool.false_and]
theorem wrds_put1 (M p L : Nat) : wrds (put1 M p) L = (wrds M L).set (p / 64) (wrd M (p / 64) ||| 2 ^ (p % 64)) := by
  apply List.ext_getElem?
  intro i
  unfold wrds
  rw [List.getElem?_set]
  by_cases e : p / 64 = i
  · subst e
    rw [if_pos rfl, List.length_map, List.length_range, List.getElem?_map]
    by_cases h : p / 64 < L
    · rw [List.getElem?_range h, if_pos h, Option.map_some, wrd_put1, if_pos rfl]
    · rw [if_neg h, List.getElem?_eq_none (by rw [List.length_range]; omega)]; rfl
  · rw [if_neg e, List.getElem?_map, List.getElem?_map]
    by_cases h : i < L
    · rw [List.getElem?_range h, Option.map_some, Option.map_some, wrd_put1, if_neg (fun h => e h.symm)]
    · rw [List.getElem?_eq_none (by rw [List.length_range]; omega)]; rfl
theorem wrds_zero (L : Nat) : wrds 0 L = List.replicate L 0 := by
  unfold wrds
  apply List.eq_replicate_iff.2
  refine ⟨by rw [List.length_map, List.length_range], fun x hx => ?_⟩
  obtain ⟨i, _, rfl⟩ := List.mem_map.1 hx
  unfold wrd; simp
theorem and_bit (x j : Nat) : (x &&& 2 ^ j = 0) ↔ x.testBit j = false := by
  constructor
  · intro h
    have : (x &&& 2 ^ j).testBit j = false := by rw [h]; exact Nat.zero_testBit j
    rw [Nat.testBit_and, Nat.testBit_two_pow, decide_eq_true rfl, Bool.and_true] at this
    exact this
  · intro h
    apply Nat.eq_of_testBit_eq; intro q
    rw [Nat.testBit_and, Nat.testBit_two_pow, Nat.zero_testBit]
    by_cases e : j = q
    · subst e; rw [h, Bool.false_and]
    · rw [decide_eq_false e, Bool.and_false]
theorem has_bit (M p : Nat) : decide (wrd M (p / 64) &&& 2 ^ (p % 64) = 0) = !M.testBit p := by
  have hm : p % 64 < 64 := Nat.mod_lt _ (by decide)
  have hb : (wrd M (p / 64)).testBit (p % 64) = M.testBit p := by
    rw [wrd_bit, decide_eq_true hm, Bool.true_and, show 64 * (p / 64) + p % 64 = p by omega]
  cases h : M.testBit p with
  | true => exact decide_eq_false fun q => by rw [(and_bit _ _).1 q, h] at hb; cases hb
  | false => exact decide_eq_true ((and_bit _ _).2 (hb.trans h))
theorem bitsL_add (M a n : Nat) : bitsL M (a + n) = bitsL M a ++ ((List.range n).map (a + ·)).filter (fun i => M.testBit i) := by
  unfold bitsL; rw [List.range_add, List.filter_append]
theorem bitsL_succ (M n : Nat) : bitsL M (n + 1) = bitsL M n ++ (if M.testBit n then [n] else []) := by
  unfold bitsL; rw [List.range_succ, List.filter_append]; congr 1; rw [List.filter_cons, List.filter_nil]
theorem bitsL_le (M n : Nat) : (bitsL M n).length ≤ n := by
  have := List.length_filter_le (fun i => M.testBit i) (List.range n)
  rw [List.length_range] at this; exact this
theorem bitsL_lt (M n x : Nat) (h : x ∈ bitsL M n) : x < n ∧ M.testBit x = true := by
  unfold bitsL at h
  rw [List.mem_filter, List.mem_range] at h; exact h
theorem bitsL_none (M a n : Nat) (h : ∀ i, a ≤ i → i < a + n → M.testBit i = false) : bitsL M (a + n) = bitsL M a := by
  rw [bitsL_add, List.filter_eq_nil_iff.2, List.append_nil]
  intro x hx
  obtain ⟨i, hi, rfl⟩ := List.mem_map.1 hx
  rw [List.mem_range] at hi
  rw [h (a + i) (by omega) (by omega)]; decide
theorem bitsL_none' (M a n : Nat) (hl : a ≤ n) (h : ∀ i, a ≤ i → i < n → M.testBit i = false) : bitsL M n = bitsL M a := by
  have := bitsL_none M a (n - a) (fun i h1 h2 => h i h1 (by omega))
  rwa [show a + (n - a) = n by omega] at this
theorem bitsL_under (M n N : Nat) (h : Under M N) (hl : N ≤ n) : bitsL M n = bitsL M N := bitsL_none' M N n hl fun i h1 _ => h i h1
theorem bitsL_zero (n : Nat) : bitsL 0 n = [] := by
  unfold bitsL; rw [List.filter_eq_nil_iff]; intro x _; rw [Nat.zero_testBit]; decide
theorem bitsL_congr (M M' n : Nat) (h : ∀ i, i < n → M.testBit i = M'.testBit i) : bitsL M n = bitsL M' n := by
  unfold bitsL
  apply List.filter_congr
  intro x hx
  exact h x (List.mem_range.1 hx)
def Nxt (M p n q : Nat) : Prop := p ≤ q ∧ q < n ∧ M.testBit q = true ∧ ∀ i, p ≤ i → i < q → M.testBit i = false
theorem nxt_snoc {M p n q : Nat} (h : Nxt M p n q) : bitsL M (q + 1) = bitsL M p ++ [q] := by
  obtain ⟨h1, _, h3, h4⟩ := h
  rw [bitsL_succ, if_pos h3, bitsL_none' M p q h1 h4]
theorem bitsL_pre (M p n : Nat) (h : p ≤ n) : ∃ r, bitsL M n = bitsL M p ++ r := by
  have := bitsL_add M p (n - p)
  rw [show p + (n - p) = n by omega] at this
  exact ⟨_, this⟩
theorem nxt_len {M p n q : Nat} (h : Nxt M p n q) : (bitsL M p).length < (bitsL M n).length := by
  obtain ⟨r, hr⟩ := bitsL_pre M (q + 1) n h.2.1
  rw [hr, nxt_snoc h]; simp
theorem nxt_take {M p n q : Nat} (h : Nxt M p n q) : (bitsL M n).take (bitsL M (q + 1)).length = bitsL M (q + 1) := by
  obtain ⟨r, hr⟩ := bitsL_pre M (q + 1) n h.2.1
  rw [hr, List.take_left]
theorem bitsL_put1 (M p n : Nat) (h : M.testBit p = false) (hp : p < n) : bitsL (put1 M p) n = (bitsL M n).take (bitsL M p).length ++ [p] ++ (bitsL M n).drop (bitsL M p).length := by
  have e1 : bitsL (put1 M p) p = bitsL M p := bitsL_congr _ _ _ fun i hi => by rw [put1_bit, decide_eq_false (by omega), Bool.or_false]
  have e2 : bitsL (put1 M p) (p + 1) = bitsL M p ++ [p] := by rw [bitsL_succ, if_pos (by rw [put1_bit, decide_eq_true rfl, Bool.or_true]), e1]
  have e3 := bitsL_add (put1 M p) (p + 1) (n - (p + 1))
  have e4 := bitsL_add M (p + 1) (n - (p + 1))
  rw [show p + 1 + (n - (p + 1)) = n by omega] at e3 e4
  have e5 : bitsL M (p + 1) = bitsL M p := by rw [bitsL_succ, h]; simp
  have e6 : ((List.range (n - (p + 1))).map (p + 1 + ·)).filter (fun i => (put1 M p).testBit i) = ((List.range (n - (p + 1))).map (p + 1 + ·)).filter (fun i => M.testBit i) := by
    apply List.filter_congr
    intro x hx
    obtain ⟨i, _, rfl⟩ := List.mem_map.1 hx
    rw [put1_bit, decide_eq_false (by omega), Bool.or_false]
  rw [e3, e2, e6, e4, e5, List.take_left, List.drop_left]
theorem len_put1 (M p n : Nat) (hp : p < n) : (bitsL (put1 M p) n).length = (bitsL M n).length + (if M.testBit p then 0 else 1) := by
  cases h : M.testBit p with
  | true => rw [put1_same M p h]; simp
  | false =>
    rw [bitsL_put1 M p n h hp]
    simp only [List.length_append, List.length_take, List.length_drop, List.length_cons, List.length_nil]
    obtain ⟨r, hr⟩ := bitsL_pre M p n (by omega)
    rw [hr, List.length_append]
    simp; omega
theorem len_insB (N : Nat) (l : List Nat) (M : Nat) (h0 : 0 < N) : (bitsL M N).length ≤ (bitsL (insB N l M) N).length ∧ (bitsL (insB N l M) N).length ≤ (bitsL M N).length + l.length := by
  induction l generalizing M with
  | nil => exact ⟨Nat.le_refl _, Nat.le_refl _⟩
  | cons b r ih =>
    have h1 := ih (put1 M (b % N))
    have h2 := len_put1 M (b % N) N (Nat.mod_lt _ h0)
    have e : insB N (b :: r) M = insB N r (put1 M (b % N)) := rfl
    rw [e, List.length_cons]
    split at h2 <;> omega
theorem len_fresh (N : Nat) (l : List Nat) (M : Nat) (h0 : 0 < N) : decide ((bitsL (insB N l M) N).length > (bitsL M N).length) = !hasB N l M := by
  induction l generalizing M with
  | nil => show decide ((bitsL M N).length > (bitsL M N).length) = false; exact decide_eq_false (by omega)
  | cons b r ih =>
    have e : insB N (b :: r) M = insB N r (put1 M (b % N)) := rfl
    have e2 : hasB N (b :: r) M = (M.testBit (b % N) && hasB N r M) := by unfold hasB; rw [List.all_cons]
    have h2 := len_put1 M (b % N) N (Nat.mod_lt _ h0)
    rw [e, e2]
    cases h : M.testBit (b % N) with
    | true => rw [put1_same M _ h, ih]; rfl
    | false =>
      rw [h] at h2
      have h3 := (len_insB N r (put1 M (b % N)) h0).1
      simp at h2
      exact decide_eq_true (by omega)
theorem len_words (M k : Nat) : (bitsL M (64 * (k + 1))).length = (bitsL M (64 * k)).length + (bitsL (wrd M k) 64).length := by
  have e := bitsL_add M (64 * k) 64
  rw [show 64 * (k + 1) = 64 * k + 64 by omega, e, List.length_append]
  congr 1
  rw [List.filter_map, List.length_map]
  unfold bitsL
  congr 1
  apply List.filter_congr
  intro x hx
  rw [wrd_bit, decide_eq_true (List.mem_range.1 hx), Bool.true_and]; rfl
theorem bitsL_ahead (M p n i : Nat) (h : p ≤ n) (hi : i < (bitsL M p).length) : (bitsL M n).getD i 0 < p := by
  obtain ⟨r, hr⟩ := bitsL_pre M p n h
  rw [hr, List.getD_eq_getElem?_getD, List.getElem?_append_left hi]
  have := bitsL_lt M p _ (List.getElem_mem hi)
  rw [List.getElem?_eq_getElem hi]; exact this.1
theorem bitsL_behind (M p n i : Nat) (hp : M.testBit p = false) (h : p < n) (h1 : (bitsL M p).length ≤ i) (h2 : i < (bitsL M n).length) : p < (bitsL M n).getD i 0 := by
  have e4 := bitsL_add M (p + 1) (n - (p + 1))
  rw [show p + 1 + (n - (p + 1)) = n by omega] at e4
  have e5 : bitsL M (p + 1) = bitsL M p := by rw [bitsL_succ, hp]; simp
  rw [e5] at e4
  rw [e4, List.length_append] at h2
  have h3 : i - (bitsL M p).length < (((List.range (n - (p + 1))).map (p + 1 + ·)).filter (fun i => M.testBit i)).length := by omega
  rw [e4, List.getD_eq_getElem?_getD, List.getElem?_append_right h1, List.getElem?_eq_getElem h3, Option.getD_some]
  have := List.getElem_mem h3
  obtain ⟨hm, _⟩ := List.mem_filter.1 this
  obtain ⟨j, _, hj⟩ := List.mem_map.1 hm
  omega
theorem bitsL_mem (M n x : Nat) : x ∈ bitsL M n ↔ x < n ∧ M.testBit x = true := by
  unfold bitsL; rw [List.mem_filter, List.mem_range]
end Go.Proofs.YtcgaibkpdihncaaDoor
namespace Go.Proofs.YtcgaibkpdihncaaDoor
open Go.RowKit Go.Lib
set_option maxRecDepth 100000 in
theorem key79 (d : Nat) (b4 b5 b6 b7 b8 b9 b10 b11 b12 b13 b14 b15 : Nat) (hb : ∀ n ∈ [b4, b5, b6, b7, b8, b9, b10, b11, b12, b13, b14, b15], n < 256) : Tryd.prog.keyLits (d + 2) 97 [.int .u8 (b4 : Int), .int .u8 (b5 : Int), .int .u8 (b6 : Int), .int .u8 (b7 : Int), .int .u8 (b8 : Int), .int .u8 (b9 : Int), .int .u8 (b10 : Int), .int .u8 (b11 : Int), .int .u8 (b12 : Int), .int .u8 (b13 : Int), .int .u8 (b14 : Int), .int .u8 (b15 : Int)] = some [.int .u8 (b4 : Int), .int .u8 (b5 : Int), .int .u8 (b6 : Int), .int .u8 (b7 : Int), .int .u8 (b8 : Int), .int .u8 (b9 : Int), .int .u8 (b10 : Int), .int .u8 (b11 : Int), .int .u8 (b12 : Int), .int .u8 (b13 : Int), .int .u8 (b14 : Int), .int .u8 (b15 : Int)] := by
  unfold Program.keyLits
  rw [Tryd.underlying97]
  have hc : Tryd.prog.cellsOf 5 = 1 := by kernel_rfl
  have hc2 : Tryd.prog.cellsOf 97 = 12 := by kernel_rfl
  simp only [List.mem_cons, List.not_mem_nil, or_false, forall_eq_or_imp, forall_eq] at hb
  obtain ⟨h4, h5, h6, h7, h8, h9, h10, h11, h12, h13, h14, h15⟩ := hb
  simp [hc, hc2, List.range_succ, key5 d b4 h4, key5 d b5 h5, key5 d b6 h6, key5 d b7 h7, key5 d b8 h8, key5 d b9 h9, key5 d b10 h10, key5 d b11 h11, key5 d b12 h12, key5 d b13 h13, key5 d b14 h14, key5 d b15 h15]
set_option maxRecDepth 100000 in
theorem key79t : Tryd.prog.keyTypeAt 2 97 = true := by kernel_rfl
set_option maxRecDepth 100000 in
theorem formed79 (b4 b5 b6 b7 b8 b9 b10 b11 b12 b13 b14 b15 : Nat) : (Value.agg #[.int .u8 (b4 : Int), .int .u8 (b5 : Int), .int .u8 (b6 : Int), .int .u8 (b7 : Int), .int .u8 (b8 : Int), .int .u8 (b9 : Int), .int .u8 (b10 : Int), .int .u8 (b11 : Int), .int .u8 (b12 : Int), .int .u8 (b13 : Int), .int .u8 (b14 : Int), .int .u8 (b15 : Int)]).formed Tryd.prog 97 = true := by kernel_rfl
set_option maxRecDepth 100000 in
theorem formed79z : (Value.agg #[.int .u8 0, .int .u8 0, .int .u8 0, .int .u8 0, .int .u8 0, .int .u8 0, .int .u8 0, .int .u8 0, .int .u8 0, .int .u8 0, .int .u8 0, .int .u8 0]).formed Tryd.prog 97 = true := by kernel_rfl
set_option maxRecDepth 100000 in
theorem key79z : Tryd.prog.keyLits 2 97 [.int .u8 0, .int .u8 0, .int .u8 0, .int .u8 0, .int .u8 0, .int .u8 0, .int .u8 0, .int .u8 0, .int .u8 0, .int .u8 0, .int .u8 0, .int .u8 0] = some [.int .u8 0, .int .u8 0, .int .u8 0, .int .u8 0, .int .u8 0, .int .u8 0, .int .u8 0, .int .u8 0, .int .u8 0, .int .u8 0, .int .u8 0, .int .u8 0] := by kernel_rfl
set_option maxRecDepth 100000 in
theorem eq79 (b4 b5 b6 b7 b8 b9 b10 b11 b12 b13 b14 b15 : Nat) (hb : ∀ n ∈ [b4, b5, b6, b7, b8, b9, b10, b11, b12, b13, b14, b15], n < 256) (w : World) :
    (Op.equalIn 10000 97 (.agg #[.int .u8 (b4 : Int), .int .u8 (b5 : Int), .int .u8 (b6 : Int), .int .u8 (b7 : Int), .int .u8 (b8 : Int), .int .u8 (b9 : Int), .int .u8 (b10 : Int), .int .u8 (b11 : Int), .int .u8 (b12 : Int), .int .u8 (b13 : Int), .int .u8 (b14 : Int), .int .u8 (b15 : Int)]) (.agg #[.int .u8 0, .int .u8 0, .int .u8 0, .int .u8 0, .int .u8 0, .int .u8 0, .int .u8 0, .int .u8 0, .int .u8 0, .int .u8 0, .int .u8 0, .int .u8 0])).run Tryd.prog w = .ok (decide ([b4, b5, b6, b7, b8, b9, b10, b11, b12, b13, b14, b15] = List.replicate 12 0)) w := by
  obtain ⟨r, hr, he⟩ := run_equalIn_deep (P := Tryd.prog) 9998 2 97 key79t w 2 2 _ _ _ _ (formed79 b4 b5 b6 b7 b8 b9 b10 b11 b12 b13 b14 b15) formed79z (key79 0 b4 b5 b6 b7 b8 b9 b10 b11 b12 b13 b14 b15 hb) key79z
  refine hr.trans ?_
  congr 1
  by_cases h : [b4, b5, b6, b7, b8, b9, b10, b11, b12, b13, b14, b15] = List.replicate 12 0
  · rw [decide_eq_true h]
    refine he.2 ?_
    simp only [List.replicate, List.cons.injEq, and_true] at h
    obtain ⟨rfl, rfl, rfl, rfl, rfl, rfl, rfl, rfl, rfl, rfl, rfl, rfl⟩ := h
    rfl
  · rw [decide_eq_false h]
    refine Bool.eq_false_iff.2 (fun q => h ?_)
    have q := he.1 q
    simp at q
    simp [List.replicate]
    omega
set_option maxRecDepth 100000 in
theorem sta79 (g : Nat) (W : World) : (Instr.arrayAt 97 (.slice (some ⟨g, 5, none⟩) 12 12)).run Tryd.prog W = .ok (.pointer (some ⟨g, 5, none⟩)) W := by rfl
set_option maxRecDepth 100000 in
set_option maxHeartbeats 1000000 in
theorem valid_any (v : Bool) (D : List Nat) (hl : D.length = 16) (hb : ∀ n ∈ D, n < 256) (w : World) :
    Calls Tryd.prog 43 #[adr v D] w fun e w' => e = .returned (.bool (vldA v D)) ∧ Below w.heap.size w w' := by
  obtain ⟨b0, b1, b2, b3, b4, b5, b6, b7, b8, b9, b10, b11, b12, b13, b14, b15, rfl⟩ := list16 D hl
  have ha : adr v [b0, b1, b2, b3, b4, b5, b6, b7, b8, b9, b10, b11, b12, b13, b14, b15] = .agg #[.bool v, .int .u8 (b0 : Int), .int .u8 (b1 : Int), .int .u8 (b2 : Int), .int .u8 (b3 : Int), .int .u8 (b4 : Int), .int .u8 (b5 : Int), .int .u8 (b6 : Int), .int .u8 (b7 : Int), .int .u8 (b8 : Int), .int .u8 (b9 : Int), .int .u8 (b10 : Int), .int .u8 (b11 : Int), .int .u8 (b12 : Int), .int .u8 (b13 : Int), .int .u8 (b14 : Int), .int .u8 (b15 : Int)] := rfl
  rw [ha]
  have hst := sta79 w.heap.size
  cases v with
  | true =>
    rw [show vldA true [b0, b1, b2, b3, b4, b5, b6, b7, b8, b9, b10, b11, b12, b13, b14, b15] = true from rfl]
    clear hb ha hl
    go_enter Tryd.func43, Tryd.ntmps43
    go_wp2_with fail
    go_ret
    exact ⟨rfl, (Below.refl _ w).alloc (Nat.le_refl _) _⟩
  | false =>
    have hv : vldA false [b0, b1, b2, b3, b4, b5, b6, b7, b8, b9, b10, b11, b12, b13, b14, b15] = decide ([b4, b5, b6, b7, b8, b9, b10, b11, b12, b13, b14, b15] = List.replicate 12 0) := by
      rw [Bool.eq_iff_iff, decide_eq_true_iff]
      constructor
      · intro h
        have h := (vldA_spec.1 h).resolve_left (by decide)
        have q := fun i h1 h2 => h i h1 h2
        simp only [List.replicate, List.cons.injEq, and_true]
        exact ⟨q 4 (by omega) (by omega), q 5 (by omega) (by omega), q 6 (by omega) (by omega), q 7 (by omega) (by omega), q 8 (by omega) (by omega), q 9 (by omega) (by omega), q 10 (by omega) (by omega), q 11 (by omega) (by omega), q 12 (by omega) (by omega), q 13 (by omega) (by omega), q 14 (by omega) (by omega), q 15 (by omega) (by omega)⟩
      · intro h
        simp only [List.replicate, List.cons.injEq, and_true] at h
        obtain ⟨rfl, rfl, rfl, rfl, rfl, rfl, rfl, rfl, rfl, rfl, rfl, rfl⟩ := h
        exact vldA_spec.2 (.inr fun i h1 h2 => by
          have : i = 4 ∨ i = 5 ∨ i = 6 ∨ i = 7 ∨ i = 8 ∨ i = 9 ∨ i = 10 ∨ i = 11 ∨ i = 12 ∨ i = 13 ∨ i = 14 ∨ i = 15 := by omega
          rcases this with rfl | rfl | rfl | rfl | rfl | rfl | rfl | rfl | rfl | rfl | rfl | rfl <;> rfl)
    rw [hv]
    have he := eq79 b4 b5 b6 b7 b8 b9 b10 b11 b12 b13 b14 b15 (fun n hn => hb n (.tail _ (.tail _ (.tail _ (.tail _ hn)))))
    generalize decide ([b4, b5, b6, b7, b8, b9, b10, b11, b12, b13, b14, b15] = List.replicate 12 0) = r at *
    have HE := Lib.hid he
    clear hb ha hl hv he
    go_enter Tryd.func43, Tryd.ntmps43
    have he := HE.out
    clear HE
    go_wp2_with fail
    go_ret
    exact ⟨rfl, (Below.refl _ w).alloc (Nat.le_refl _) _⟩
end Go.Proofs.YtcgaibkpdihncaaDoor
namespace Go.Proofs.YtcgaibkpdihncaaDoor
open Go.RowKit
set_option maxRecDepth 100000 in
theorem Tryd.info5 : (Tryd.prog.info? 5).map (fun i => (i.zero, i.size, i.bytes)) = some (some (.int .u8 0), 1, 1) := by kernel_rfl
set_option maxRecDepth 100000 in
theorem Tryd.size5 : (Tryd.prog.info? 5).map (·.size) = some 1 := by kernel_rfl
set_option maxRecDepth 100000 in
theorem size_made (n : Nat) : (madeCells #[Value.int .u8 0] n).toList.length = n := by rw [toList_madeCells_one]; simp
set_option maxRecDepth 100000 in
theorem splice_made (zs : List Nat) (n len : Nat) (h : len = zs.length) : splice (madeCells #[Value.int .u8 0] (len + n)).toList 0 (nus .u8 zs) = nus .u8 (zs ++ List.replicate n 0) := by
  rw [toList_madeCells_one, nus_append]
  subst h
  simp [splice, nus]
end Go.Proofs.YtcgaibkpdihncaaDoor
namespace Go.Proofs.YtcgaibkpdihncaaDoor
open Go.RowKit
set_option maxRecDepth 100000 in
theorem wpList_app {w : World} {ops : Array Oper} {rest : List Oper} {o : Oper} {a : Act} {Q : Exit → Act → World → Prop} (hw : Region.wanted o (yielded ops a.tmps) = true) (s x : Operand)
    (ho : o.op = .call { callee := .builtin .append, args := #[s, x], argTypes := #[90, 90] })
    (base : Nat) (v : Value) (n : Nat) (zs : List Nat) (hs : a.eval s = v) (hown : w.ownsRow base 5 1 v n (nus .u8 zs))
    (ao : Option Addr) (len cap : Nat) (bs : List Nat) (hx : a.eval x = .slice ao len cap) (hr : Rd w (.slice ao len cap) (nus .u8 bs)) (hn : ao = none → cap = 0) (hlen : n + len ≤ 1000000) (hbase : base ≤ w.heap.size)
    (h : ∀ v' w', w'.ownsRow base 5 1 v' (n + len) (nus .u8 (zs ++ bs)) → w.grownBy w' v.ownBlock → wpList Tryd.prog ops Q rest (a.put o.dst v') w') :
    wpList Tryd.prog ops Q (o :: rest) a w := by
  obtain ⟨i0, hi, hz0, hz1, hz2⟩ := info_parts Tryd.info5
  obtain ⟨a', cap', e, h1, h2, h3⟩ := hr
  simp only [Value.slice.injEq] at e
  obtain ⟨rfl, he, rfl⟩ := e
  rw [nus_length] at he h1 h3
  subst he
  refine BigFrame.wpList_want hw fun K hK => ?_
  cases ao with
  | none =>
    obtain rfl := hn rfl
    have hb : bs = [] := by cases bs with | nil => rfl | cons _ _ => simp at h1
    subst hb
    have hrun := run_append_owned_none (P := Tryd.prog) (w := w) base 90 o.type 5 i0 1 Tryd.underlying90 hi v n (nus .u8 zs) hown
    unfold Oper.wp
    simp [execOp, ho, resolve, invoke, builtin, hs, hx, hrun, Result.andThen]
    exact hK _ _ (h v w (by simpa using hown) (World.grownBy.refl _ _))
  | some ad =>
    refine wp_append_own w s x 90 ho base 5 i0 (.int .u8 0) 1 1 Tryd.underlying90 hi hz0 hz1 hz2 rfl (by decide) v n (nus .u8 zs) hs hown ad bs.length cap (nus .u8 bs) hx (by rw [nus_length]; omega) ?_ (oneCell_nus _ _) (by unfold maxLen; omega) (by omega) hbase ?_
    · intro j u hj
      rcases h3 with h3 | ⟨b, off, e, hb, hcc⟩
      · rw [h3] at hj; simp at hj
      · cases e
        have hjl : j < (nus .u8 bs).length := (List.getElem?_eq_some_iff.1 hj).1
        rw [nus_length] at hjl
        rw [← hj]
        rw [Addr.add_lit]; exact hcc j hjl
    · intro v' w' hown' hgr _
      exact hK _ _ (h v' w' (by rw [nus_append]; exact hown') hgr)
set_option maxRecDepth 100000 in
theorem own_none (w : World) (e : TypeId) : (w.alloc (.cells #[] e)).ownsRow w.heap.size e 1 (.slice (some ⟨w.heap.size, 0, none⟩) 0 0) 0 (nus .u8 []) :=
  own_of_heap (show (w.heap.push (.cells #[] e))[w.heap.size]? = _ by simp [nus]) (Nat.le_refl _) rfl (by simp [maxLen])
end Go.Proofs.YtcgaibkpdihncaaDoor
namespace Go.Proofs.YtcgaibkpdihncaaDoor
open Go.RowKit
set_option maxRecDepth 100000 in
theorem own_front {w : World} {base g cap : Nat} {e : TypeId} {cur : Array Value} (hg : w.heap[g]? = some (.cells cur e (0, 0))) (hb : base ≤ g) (hc : cur.size = cap) (hm : cap ≤ maxLen) :
    w.ownsRow base e 1 (.slice (some ⟨g, 0, none⟩) 0 cap) 0 (nus .u8 []) :=
  ⟨by simp [nus], .inr ⟨g, cap, cur, rfl, hb, hg, Nat.zero_le _, hm, by simpa using hc, by simp [nus]⟩⟩
set_option maxRecDepth 100000 in
set_option maxHeartbeats 1000000 in
theorem grow_nil (n : Nat) (w : World) (h0 : 0 < n) (hn : n ≤ 1000000) :
    Calls Tryd.prog 62 #[.slice none 0 0, .int .i64 (n : Int)] w fun e w' => ∃ x, e = .returned x ∧ w'.ownsRow w.heap.size 5 1 x 0 (nus .u8 []) ∧ Below w.heap.size w w' := by
  obtain ⟨i, hi, hz, hs, hby⟩ := info_parts Tryd.info5
  have hr := Lib.hid (Lib.run_append_nil_zeros (P := Tryd.prog) w 90 3 90 5 i (.int .u8 0) .i64 .i64 Tryd.underlying90 Tryd.underlying3 hi hz n h0 (by omega) (by omega) (by rw [hby]; omega))
  have hcm := grownCap_le_maxLen w n 0 5 (by unfold maxLen; omega)
  have hge := grownCap_ge w n 0 5
  have hsz : (Builtin.zeroCells (Value.int .u8 0).cells n ++ Builtin.zeroCells (Value.int .u8 0).cells (grownCap w n 0 5 - n)).size = grownCap w n 0 5 := by
    rw [Array.size_append, size_zeroCells, size_zeroCells]
    show n * 1 + (grownCap w n 0 5 - n) * 1 = _
    omega
  generalize Builtin.zeroCells (Value.int .u8 0).cells n ++ Builtin.zeroCells (Value.int .u8 0).cells (grownCap w n 0 5 - n) = cur at *
  have hown := Lib.hid (own_front (base := w.heap.size) (heap_alloc_new w.drew (.cells cur 5)) (Nat.le_refl _) hsz hcm)
  have hbel := Lib.hid ((Below.refl w.heap.size w).drew.alloc (Nat.le_refl _) (.cells cur 5))
  generalize grownCap w n 0 5 = cap at *
  unfold maxLen at hcm
  clear hi hz hs hby hsz
  have hd1 : decide ((n : Int) < 0) = false := decide_eq_false (by omega)
  have hd2 : decide (0 < n) = true := decide_eq_true (by omega)
  go_enter Tryd.func62, Tryd.ntmps62
  go_wp2_with (refine Lib.wpList_append_run _ rfl (.tmp 20) (.tmp 21) 90 3 rfl _ _ rfl rfl _ _ hr.out ?_)
  go_wp2
  go_ret
  exact ⟨_, rfl, hown.out, hbel.out⟩
end Go.Proofs.YtcgaibkpdihncaaDoor
namespace Go.Proofs.YtcgaibkpdihncaaDoor
open Go.RowKit
def csN (n : Nat → Nat) : Nat → Nat
  | 0 => 0
  | j + 1 => csN n j + n j
def crN (z : Nat → List Nat) : Nat → List Nat
  | 0 => []
  | j + 1 => crN z j ++ z j
set_option maxRecDepth 100000 in
theorem csN_le (n : Nat → Nat) {j k : Nat} (h : j ≤ k) : csN n j ≤ csN n k := by
  induction h with
  | refl => exact Nat.le_refl _
  | step _ ih => exact Nat.le_trans ih (Nat.le_add_right _ _)
set_option maxRecDepth 100000 in
theorem lt_cell {w : World} {b o : Nat} {v : Value} (h : w.cell? ⟨b, o, none⟩ = some v) : b < w.heap.size := by
  rcases Nat.lt_or_ge b w.heap.size with q | q
  · exact q
  · simp [World.cell?, Array.getElem?_eq_none q] at h
end Go.Proofs.YtcgaibkpdihncaaDoor
namespace Go.Proofs.YtcgaibkpdihncaaDoor
open Go.RowKit
set_option maxRecDepth 100000 in
set_option maxHeartbeats 2000000 in
theorem concat_any (cnt : Nat) (hcnt : cnt ≤ 1000) (b : Nat) (a : Nat → Option Addr) (n c : Nat → Nat) (z : Nat → List Nat) (w : World)
    (hc : ∀ j, j < cnt → w.cell? ⟨b, j, none⟩ = some (.slice (a j) (n j) (c j))) (hr : ∀ j, j < cnt → Rd w (.slice (a j) (n j) (c j)) (nus .u8 (z j)))
    (h0 : ∀ j, j < cnt → a j = none → c j = 0) (hl : ∀ j, j < cnt → (z j).length = n j) (hp : 0 < csN n cnt) (hm : csN n cnt ≤ 1000000) :
    Calls Tryd.prog 57 #[.slice (some ⟨b, 0, none⟩) cnt cnt] w fun e w' => ∃ x, e = .returned x ∧ w'.ownsRow w.heap.size 5 1 x (csN n cnt) (nus .u8 (crN z cnt)) ∧ Below w.heap.size w w' := by
  have hb : b < w.heap.size := by
    rcases Nat.eq_zero_or_pos cnt with q | q
    · rw [q] at hp; exact absurd hp (by simp [csN])
    · exact lt_cell (hc 0 q)
  have C := Lib.hid hc
  have H := Lib.hid hr
  have H0 := Lib.hid h0
  have HL := Lib.hid hl
  have M := Lib.hid (fun (j : Nat) (h : j ≤ cnt) => Nat.le_trans (csN_le n h) hm)
  obtain ⟨N, hN⟩ : ∃ N, N = csN n cnt := ⟨_, rfl⟩
  have HN := Lib.hid hN
  have hd1 : decide ((N : Int) < 0) = false := decide_eq_false (by omega)
  rw [← hN] at hp hm ⊢
  clear hc hr h0 hl hN
  go_enter Tryd.func57, Tryd.ntmps57
  go_wp2_with fail
  go_loop [3, 11] (fun s i => ∃ j : Nat, j ≤ cnt ∧ i = .int .i64 (j : Int) ∧ s = .int .i64 (csN n j : Nat)) (fun _ i => cnt - (intOf i).toNat)
  case atStart => exact ⟨0, by omega, rfl, rfl⟩
  case round =>
    obtain ⟨j, hj, rfl, rfl⟩ := hrel
    by_cases hjc : j < cnt
    · have c0 := C.out j hjc
      have m0 := M.out j hj
      have m1 := M.out (j + 1) hjc
      rw [csN] at m1
      have e1 : IntKind.i64.wrap ((csN n j : Int) + (n j : Int)) = ((csN n (j + 1) : Nat) : Int) := by rw [IntKind.wrap_i64, csN]; omega
      have E1 := Lib.hid e1
      have j1 : (j : Int) < (cnt : Int) := by omega
      have d1 : decide (((csN n (j + 1) : Nat) : Int) < 0) = false := decide_eq_false (by omega)
      have HT := Lib.hid (show ∃ T, T = csN n (j + 1) from ⟨_, rfl⟩)
      obtain ⟨T, hT⟩ := HT.out
      have HT := Lib.hid hT
      rw [← hT] at e1 d1
      clear E1 hT
      generalize csN n j = S at *
      generalize n j = m at *
      go_wp2
      go_round
      case rel => exact ⟨j + 1, by omega, by go_num, by rw [HT.out]⟩
      case measure => simp [intOf]; omega
    · obtain rfl : cnt = j := by omega
      rw [← HN.out]
      go_wp2_with fail
      refine (grow_nil N w hp hm).mono ?_; rintro e w1 ⟨x, rfl, ho, hbw⟩
      have O := Lib.hid ho
      have B := Lib.hid hbw
      clear ho hbw hd1
      go_wp2_with fail
      go_loopw [6, 27] (fun s i wr => ∃ j : Nat, j ≤ cnt ∧ i = .int .i64 (j : Int) ∧ wr.ownsRow w.heap.size 5 1 s (csN n j) (nus .u8 (crN z j)) ∧ Below w.heap.size w wr) (fun _ i _ => cnt - (intOf i).toNat)
      case atStart => exact ⟨0, by omega, rfl, O.out, B.out⟩
      case round =>
        obtain ⟨j, hj, rfl, ho, hbw⟩ := hrel
        have OJ := Lib.hid ho
        have BJ := Lib.hid hbw
        clear ho hbw
        by_cases hjc : j < cnt
        · have c0 := (BJ.out.cell (p := ⟨b, j, none⟩) hb).trans (C.out j hjc)
          have R1 := Lib.hid ((H.out j hjc).below BJ.out)
          have m0 := M.out j hj
          have hl := HL.out j hjc
          have h0 := Lib.hid (H0.out j hjc)
          have b0 := BJ.out.size
          have m1 := M.out (j + 1) hjc
          rw [csN] at m1
          have j1 : (j : Int) < (cnt : Int) := by omega
          have EC : Hid (csN n (j + 1) = csN n j + n j) := rfl
          have ER : Hid (crN z (j + 1) = crN z j ++ z j) := rfl
          obtain ⟨T, hT⟩ : ∃ T, T = csN n (j + 1) := ⟨_, rfl⟩
          obtain ⟨U, hU⟩ : ∃ U, U = crN z (j + 1) := ⟨_, rfl⟩
          rw [← hT] at EC
          rw [← hU] at ER
          have HT := Lib.hid hT
          have HU := Lib.hid hU
          clear hT hU
          generalize csN n j = S at *
          generalize crN z j = X at *
          generalize n j = m at *
          generalize z j = Y at *
          generalize a j = A at *
          generalize c j = k at *
          subst hl
          go_wp2_with (at_builtin; refine wpList_app rfl (.tmp 31) (.tmp 32) rfl w.heap.size _ S X rfl OJ.out A Y.length k Y rfl R1.out h0.out ?x0a ?x0b ?x0c)
          case x0a => omega
          case x0b => exact b0
          intro v2 w2 o2 g2
          have K2 := Lib.hid (BJ.out.grown g2 BJ.out.size (fun k e => (OJ.out.lt k e).1))
          have O2 : Hid (w2.ownsRow w.heap.size 5 1 v2 T (nus .u8 U)) := by show World.ownsRow _ _ _ _ _ _ _; rw [EC.out, ER.out]; exact o2
          clear o2 g2 c0 EC ER
          go_wp2
          go_roundw
          case rel => exact ⟨j + 1, by omega, by go_num, by rw [← HT.out, ← HU.out]; exact O2.out, K2.out⟩
          case measure => simp [intOf]; omega
        · obtain rfl : cnt = j := by omega
          rw [← HN.out] at OJ
          have O1 := Lib.hid OJ.out
          clear OJ hj hjc
          go_wp2
          go_ret
          exact ⟨_, rfl, O1.out, BJ.out⟩
set_option maxRecDepth 100000 in
theorem concat_3 (b : Nat) (a0 a1 a2 : Option Addr) (n0 n1 n2 c0 c1 c2 : Nat) (z0 z1 z2 : List Nat) (w : World) (B : Blk w b 90 #[.slice a0 n0 c0, .slice a1 n1 c1, .slice a2 n2 c2])
    (r0 : Rd w (.slice a0 n0 c0) (nus .u8 z0)) (r1 : Rd w (.slice a1 n1 c1) (nus .u8 z1)) (r2 : Rd w (.slice a2 n2 c2) (nus .u8 z2))
    (h0 : a0 = none → c0 = 0) (h1 : a1 = none → c1 = 0) (h2 : a2 = none → c2 = 0) (l0 : z0.length = n0) (l1 : z1.length = n1) (l2 : z2.length = n2) (hp : 0 < n0) (hm : n0 + n1 + n2 ≤ 1000000) :
    Calls Tryd.prog 57 #[.slice (some ⟨b, 0, none⟩) 3 3] w fun e w' => ∃ x, e = .returned x ∧ w'.ownsRow w.heap.size 5 1 x (n0 + n1 + n2) (nus .u8 (z0 ++ (z1 ++ z2))) ∧ Below w.heap.size w w' := by
  have := concat_any 3 (by omega) b (fun j => match j with | 0 => a0 | 1 => a1 | _ => a2) (fun j => match j with | 0 => n0 | 1 => n1 | _ => n2) (fun j => match j with | 0 => c0 | 1 => c1 | _ => c2) (fun j => match j with | 0 => z0 | 1 => z1 | _ => z2) w
    (fun j hj => by match j, hj with | 0, _ => exact B.cell 0 | 1, _ => exact B.cell 1 | 2, _ => exact B.cell 2)
    (fun j hj => by match j, hj with | 0, _ => exact r0 | 1, _ => exact r1 | 2, _ => exact r2)
    (fun j hj => by match j, hj with | 0, _ => exact h0 | 1, _ => exact h1 | 2, _ => exact h2)
    (fun j hj => by match j, hj with | 0, _ => exact l0 | 1, _ => exact l1 | 2, _ => exact l2)
    (by simp only [csN]; omega) (by simp only [csN]; omega)
  simpa [csN, crN] using this
end Go.Proofs.YtcgaibkpdihncaaDoor
namespace Go.Proofs.YtcgaibkpdihncaaDoor
open Go.RowKit
set_option maxRecDepth 10000 in
set_option maxHeartbeats 400000 in
theorem len64_16 (w : World) :
    Calls Tryd.prog 66 #[.int .u64 65535] w fun e w' => e = .returned (.int .i64 16) ∧ w = w' := by
  go_enter Tryd.func66, Tryd.ntmps66
  go_wp2_with fail
  go_ret
  exact ⟨by kernel_rfl, rfl⟩
set_option maxRecDepth 10000 in
set_option maxHeartbeats 400000 in
theorem size16_any (w : World) :
    Calls Tryd.prog 64 #[] w fun e w' => e = .returned (.int .i64 2) ∧ w = w' := by
  go_enter Tryd.func64, Tryd.ntmps64
  go_wp2_with (go_at_call 66; refine (len64_16 _).mono ?_; rintro e w' ⟨rfl, rfl⟩)
  go_ret
  exact ⟨rfl, rfl⟩
set_option maxRecDepth 100000 in
set_option maxHeartbeats 400000 in
theorem fits16_pos (a : Option Addr) (len cap : Nat) (at0 : Int) (w : World) (hl : len ≤ maxLen) (h0 : 0 ≤ at0) :
    Calls Tryd.prog 67 #[.slice a len cap, .int .i64 at0] w fun e w' => e = .returned (.bool (decide (at0 ≤ (len : Int) - 2))) ∧ w = w' := by
  unfold maxLen at hl
  go_enter Tryd.func67, Tryd.ntmps67
  go_wp2_with (go_at_call 64; refine (size16_any _).mono ?_; rintro e w' ⟨rfl, rfl⟩)
  go_ret
  exact ⟨rfl, rfl⟩
end Go.Proofs.YtcgaibkpdihncaaDoor
namespace Go.Proofs.YtcgaibkpdihncaaDoor
open Go.RowKit
set_option maxRecDepth 100000 in
set_option maxHeartbeats 400000 in
theorem put16_yes (g n cap base : Nat) (k v : Nat) (zs : List Nat) (w : World) (hown : w.ownsRow base 5 1 (.slice (some ⟨g, 0, none⟩) n cap) n (nus .u8 zs)) (hn : n ≤ maxLen) (hk : k + 2 ≤ n) (hv : v < 65536) :
    Calls Tryd.prog 65 #[.slice (some ⟨g, 0, none⟩) n cap, .int .i64 k, .int .u16 v] w fun e w' => e = .returned (.bool true) ∧ w'.ownsRow base 5 1 (.slice (some ⟨g, 0, none⟩) n cap) n (nus .u8 (putRow zs k 2 v 2)) ∧ w.grownBy w' (some g) := by
  have hzl : zs.length = n := by have := hown.1; simpa [nus_length] using this
  unfold maxLen at hn
  have hfit : decide ((k : Int) ≤ (n : Int) - 2) = true := by simp; omega
  have HO := Lib.hid hown
  have HZ := Lib.hid hzl
  clear hown hzl
  go_enter Tryd.func65, Tryd.ntmps65
  go_wp2_with (first
    | (go_at_call 67; refine (fits16_pos _ _ _ _ _ (by unfold maxLen; omega) (by omega)).mono ?_; rintro e w' ⟨rfl, rfl⟩; rw [hfit])
    | (go_at_call 64; refine (size16_any _).mono ?_; rintro e w' ⟨rfl, rfl⟩))
  go_loopw [7, 8] (fun r i wr => ∃ j : Nat, j ≤ 2 ∧ r = .int .u64 ((v / 256 ^ j : Nat) : Int) ∧ i = .int .i64 ((k : Int) + 2 - 1 - j) ∧ wr.ownsRow base 5 1 (.slice (some ⟨g, 0, none⟩) n cap) n (nus .u8 (putRow zs k 2 v j)) ∧ w.grownBy wr (some g)) (fun _ i _ => (intOf i + 1 - k).toNat)
  case atStart => exact ⟨0, by omega, by simp, by simp, by rw [putRow_zero]; exact HO.out, World.grownBy.refl _ _⟩
  case round =>
    obtain ⟨j, hj, rfl, rfl, hown, hgr⟩ := hrel
    by_cases h1 : j < 2
    · obtain ⟨r, hr⟩ : ∃ r, r = v / 256 ^ j := ⟨_, rfl⟩
      obtain ⟨p, hp⟩ : ∃ p : Nat, (k : Int) + 2 - 1 - j = p := ⟨k + 2 - 1 - j, by omega⟩
      have hpk : k ≤ p ∧ p < k + 2 := by omega
      have hrv : r < 18446744073709551616 := by have := Nat.div_le_self v (256 ^ j); omega
      have hcell := hown.cellAt p (by omega)
      rw [nus_get _ _ _ (by rw [putRow_length _ _ _ _ _ (by rw [HZ.out]; exact hk) hj, HZ.out]; omega)] at hcell
      have hfz := hown.frozenAt p
      have hst := hown.stored p (.int .u8 ((r % 256 : Nat) : Int))
      have hstep := putRow_step zs k 2 v j (by rw [HZ.out]; exact hk) h1
      rw [← hr, show k + 2 - 1 - j = p from by omega] at hstep
      rw [nus_set, hstep] at hst
      have hr2 : r / 256 = v / 256 ^ (j + 1) := by rw [hr, Nat.div_div_eq_div_mul, Nat.pow_succ]
      rw [← hr, hp]
      obtain ⟨x, hx⟩ : ∃ x, x = (putRow zs k 2 v j).getD p 0 := ⟨_, rfl⟩
      rw [← hx] at hcell
      have HS := Lib.hid hst
      have HP := Lib.hid hp
      have HR := Lib.hid hr2
      clear hown hst hstep hp hr hr2 hx
      go_wp2
      go_roundw
      case rel => exact ⟨j + 1, by omega, by rw [← HR.out]; go_num, by have := HP.out; go_num, HS.out.1, grownBy_trans hgr HS.out.2⟩
      case measure => have := HP.out; simp [intOf]; omega
    · obtain rfl : j = 2 := by omega
      go_wp2
      go_ret
      exact ⟨rfl, hown, hgr⟩
end Go.Proofs.YtcgaibkpdihncaaDoor
namespace Go.Proofs.YtcgaibkpdihncaaDoor
open Go.RowKit
set_option maxRecDepth 100000 in
set_option maxHeartbeats 400000 in
theorem app16_any (va : Value) (zs : List Nat) (v : Nat) (w : World) (hr : Rd w va (nus .u8 zs)) (hz : zs.length ≤ 140737488351232) (hv : v < 65536) :
    Calls Tryd.prog 59 #[va, .int .u16 v] w fun e w' => ∃ x, e = .returned x ∧ w'.ownsRow w.heap.size 5 1 x (zs.length + 2) (nus .u8 (zs ++ bg 2 v)) ∧ Below w.heap.size w w' := by
  obtain ⟨i0, hi, hz0, hz1, hz2⟩ := info_parts Tryd.info5
  obtain ⟨a, cap, rfl, hlc, hl, hx⟩ := hr
  rw [nus_length] at hlc hx ⊢
  obtain ⟨len, hlen⟩ : ∃ len, len = zs.length := ⟨_, rfl⟩
  rw [← hlen] at hlc hx hz ⊢
  have HL := Lib.hid hlen
  have HX := Lib.hid hx
  clear hlen hx
  unfold maxLen at hl
  go_enter Tryd.func59, Tryd.ntmps59
  have hbase : w.heap.size ≤ w.heap.size := Nat.le_refl _
  go_wp2_with (first
    | (go_at_call 64; refine (size16_any _).mono ?_; rintro e w' ⟨rfl, rfl⟩)
    | (at_make; refine wpList_make_full _ rfl _ _ 90 rfl w.heap.size 5 i0 (.int .u8 0) 1 Tryd.underlying90 hi hz0 hz1 .i64 .i64 _ _ (len + 2) rfl rfl ?c1 ?c2 ?c3 ?c4 hbase ?_))
  case c1 => omega
  case c2 => omega
  case c3 => rw [hz2]; omega
  case c4 => unfold maxLen; omega
  intro w1 hown hgr
  have hb1 : Below w.heap.size w w1 := (Below.refl _ _).grown hgr (Nat.le_refl _) (fun k hk => by cases hk)
  obtain ⟨hh, _⟩ := own_heap hown
  have hrd : Rd w1 (.slice a len cap) (nus .u8 zs) := (show Rd w (.slice a len cap) (nus .u8 zs) from ⟨a, cap, by rw [nus_length, HL.out], by rw [nus_length, ← HL.out]; exact hlc, hl, by rw [nus_length, ← HL.out]; exact HX.out⟩).below hb1
  have hsrc := Lib.hid hrd.src
  have HH := Lib.hid hh
  have HB1 := Lib.hid hb1
  clear hh hown hgr hrd hb1
  go_wp2_with (with_reducible refine wpList_copy_splice rfl (.tmp 11) (.tmp 12) 90 90 rfl 5 Tryd.underlying90 Tryd.size5 _ _ _ _ _ _ rfl rfl w.heap.size 0 _ 5 HH.out (nus .u8 zs) ?d1 ?d2 ?d3 (oneCell_nus _ _) w.heap.size w HB1.out (Nat.le_refl _) ?_)
  case d1 => rw [nus_length, ← HL.out]; exact (Nat.min_eq_left (by omega)).symm
  case d2 => exact hsrc.out
  case d3 => rw [nus_length, ← HL.out, size_made]; omega
  intro w2 h2 hb2
  have hh2 := h2.out
  rw [splice_made zs 2 _ HL.out] at hh2
  have hown2 := own_of_heap (base := w.heap.size) (n := len + 2) hh2 (Nat.le_refl _) (by rw [nus_length, List.length_append, List.length_replicate, ← HL.out]) (by unfold maxLen; omega)
  have HO := Lib.hid hown2
  have HB2 := Lib.hid hb2
  clear hh2 hown2 h2 hb2 hsrc HH HB1 HX
  go_wp2_with (go_at_call 65; (refine (put16_yes w.heap.size (len + 2) (len + 2) w.heap.size len v _ _ HO.out (by unfold maxLen; omega) (Nat.le_refl _) hv).mono ?_); rintro e w3 ⟨rfl, hown3, hgr3⟩)
  go_ret
  refine ⟨_, rfl, ?_, HB2.out.grown hgr3 HB2.out.size (fun k hk => by cases hk; exact Nat.le_refl _)⟩
  rw [putRow_app zs 2 v len HL.out] at hown3
  exact hown3
end Go.Proofs.YtcgaibkpdihncaaDoor
namespace Go.Proofs.YtcgaibkpdihncaaDoor
open Go.RowKit
def gr (u : Nat) : Nat := if u = 0 then 0 else (u - 1) % 65535 + 1
def w2 (E : List Nat) (j : Nat) : Nat := E.getD (2 * j) 0 * 256 + E.getD (2 * j + 1) 0
end Go.Proofs.YtcgaibkpdihncaaDoor
namespace Go.Proofs.YtcgaibkpdihncaaDoor
open Go.RowKit
set_option maxRecDepth 100000 in
theorem own_at {w : World} {base n : Nat} {e : TypeId} {v : Value} {xs : List Value} (h : w.ownsRow base e 1 v n xs) (h0 : 0 < n) : ∃ g cap, v = .slice (some ⟨g, 0, none⟩) n cap ∧ n ≤ cap ∧ cap ≤ maxLen ∧ base ≤ g ∧ g < w.heap.size := by
  rcases h.2 with ⟨-, h1⟩ | ⟨g, cap, cur, rfl, hg, h2, hnc, hcm, _⟩
  · omega
  · exact ⟨g, cap, rfl, hnc, hcm, hg, (Array.getElem?_eq_some_iff.1 h2).1⟩
end Go.Proofs.YtcgaibkpdihncaaDoor
namespace Go.Proofs.YtcgaibkpdihncaaDoor
open Go.RowKit
set_option maxRecDepth 100000 in
theorem wpAnyH_mono {P : Program} {ops : Array Oper} {Q : Exit → Act → World → Prop} {md : Region.Mode} {S S' : World → Prop} (hS : ∀ w, S' w → S w) :
    ∀ (fuel : Nat) (listed : Array Bool) (a : Act) (w : World), wpAnyH P md ops Q S' fuel listed a w → wpAnyH P md ops Q S fuel listed a w
  | 0, _, _, _, h => h
  | _ + 1, _, _, _, h => ⟨h.1, fun i hi => wpOp_mono (fun _ _ h' => ⟨hS _ h'.1, wpAnyH_mono hS _ _ _ _ h'.2⟩) (h.2 i hi)⟩
end Go.Proofs.YtcgaibkpdihncaaDoor
namespace Go.Proofs.YtcgaibkpdihncaaDoor
open Go.RowKit
set_option maxRecDepth 100000 in
theorem same_below {P : Program} {f : Nat} {args : Array Value} {W : World} {x : Ending} (h : Calls P f args W fun e w' => e = x ∧ W = w') : Calls P f args W fun e w' => e = x ∧ Below W.heap.size W w' :=
  h.mono fun _ _ ⟨h1, h2⟩ => ⟨h1, h2 ▸ Below.refl _ _⟩
end Go.Proofs.YtcgaibkpdihncaaDoor
namespace Go.Proofs.YtcgaibkpdihncaaDoor
open Go.RowKit
set_option maxRecDepth 100000 in
theorem rd_adr {w : World} {g : Nat} {t : TypeId} {v : Bool} {bs : List Nat} (h : Blk w g t (cellsA v bs)) (n : Nat) (hn : n ≤ bs.length) (h16 : n ≤ 16) : Rd w (.slice (some ⟨g, 1, none⟩) n 16) (nus .u8 (bs.take n)) := by
  have hl : (nus .u8 (bs.take n)).length = n := by rw [nus_length]; simp; omega
  refine ⟨_, _, by rw [hl], by rw [hl]; exact h16, by simp [maxLen], .inr ⟨g, 1, rfl, h.lt, fun i hi => ?_⟩⟩
  rw [hl] at hi
  rw [h.cell (1 + i), cellsA_get v bs i (by omega), nus_get _ _ _ (by simp; omega)]
  simp [List.getD_eq_getElem?_getD, hi]
set_option maxRecDepth 100000 in
set_option maxHeartbeats 1000000 in
theorem rbytes_own (v : Bool) (bs : List Nat) (hl : bs.length = 16) (w : World) :
    Calls Tryd.prog 54 #[adr v bs] w fun e w' => ∃ z, e = .returned z ∧ w'.ownsRow w.heap.size 5 1 z (bytesA v bs).length (nus .u8 (bytesA v bs)) ∧ Below w.heap.size w w' := by
  unfold adr
  have HN := Lib.hid (Blk.new w 26 (cellsA v bs))
  have B0 := (Below.refl w.heap.size w).alloc (Nat.le_refl _) (.cells (cellsA v bs) 26)
  have hc0 : (w.alloc (.cells (cellsA v bs) 26)).cell? ⟨w.heap.size, 0, none⟩ = some (.bool v) := (HN.out.cell 0).trans (by simp [cellsA])
  have R4 := Lib.hid (rd_adr HN.out 4 (by omega) (by omega))
  have R16 := Lib.hid (rd_adr HN.out 16 (by omega) (by omega))
  have e16 : bs.take 16 = bs := List.take_of_length_le (by omega)
  rw [e16] at R16
  have HL := Lib.hid hl
  generalize cellsA v bs = c at *
  generalize hW : w.alloc (.cells c 26) = W at hc0 R4 R16 B0
  have HW := Lib.hid hW
  have hsz : w.heap.size ≤ W.heap.size := by rw [← hW]; simp
  have o1 := own_low hsz (own_none W 5)
  have b1 := (Below.refl W.heap.size W).alloc (Nat.le_refl _) (.cells #[] 5)
  have K1 := Lib.hid (B0.trans (b1.mono hsz))
  have O1 := Lib.hid o1
  have r4 := Lib.hid (R4.out.below b1)
  have r16 := Lib.hid (R16.out.below b1)
  clear hl hW HN B0 e16 o1 b1 R4 R16
  cases v with
  | false =>
    unfold bytesA
    rw [if_neg (by decide), show (bs.take 4).length = 4 from by rw [List.length_take, HL.out]; rfl]
    go_enter Tryd.func54, Tryd.ntmps54
    have hWW := HW.out
    go_wp2_with (at_builtin; refine wpList_app rfl (.tmp 6) (.tmp 9) rfl w.heap.size _ 0 [] rfl O1.out (some _) 4 16 (bs.take 4) rfl r4.out ?c1 ?c2 ?c3 ?c4)
    case c1 => intro e; cases e
    case c2 => omega
    case c3 => exact K1.out.size
    intro v2 w2 o2 g2
    have K2 := Lib.hid (K1.out.grown g2 K1.out.size (fun k e => (O1.out.lt k e).1))
    have O2 := Lib.hid o2
    clear o2 g2
    go_wp2
    go_ret
    exact ⟨_, rfl, O2.out, K2.out⟩
  | true =>
    unfold bytesA
    rw [if_pos rfl, show bs.length = 16 from HL.out]
    go_enter Tryd.func54, Tryd.ntmps54
    have hWW := HW.out
    go_wp2_with (at_builtin; refine wpList_app rfl (.tmp 6) (.tmp 9) rfl w.heap.size _ 0 [] rfl O1.out (some _) 16 16 bs rfl r16.out ?d1 ?d2 ?d3 ?d4)
    case d1 => intro e; cases e
    case d2 => omega
    case d3 => exact K1.out.size
    intro v2 w2 o2 g2
    have K2 := Lib.hid (K1.out.grown g2 K1.out.size (fun k e => (O1.out.lt k e).1))
    have O2 := Lib.hid o2
    clear o2 g2
    go_wp2
    go_ret
    exact ⟨_, rfl, O2.out, K2.out⟩
end Go.Proofs.YtcgaibkpdihncaaDoor
namespace Go.Proofs.YtcgaibkpdihncaaDoor
open Go.RowKit
set_option maxRecDepth 100000 in
theorem wp_app {w : World} {K : Act → World → Prop} {Q : Exit → Act → World → Prop} {o : Oper} {a : Act} (s x : Operand)
    (ho : o.op = .call { callee := .builtin .append, args := #[s, x], argTypes := #[90, 90] })
    (base : Nat) (v : Value) (n : Nat) (zs : List Nat) (hs : a.eval s = v) (hown : w.ownsRow base 5 1 v n (nus .u8 zs))
    (ao : Option Addr) (len cap : Nat) (bs : List Nat) (hx : a.eval x = .slice ao len cap) (hr : Rd w (.slice ao len cap) (nus .u8 bs)) (hn : ao = none → cap = 0) (hlen : n + len ≤ 1000000) (hbase : base ≤ w.heap.size)
    (h : ∀ v' w', w'.ownsRow base 5 1 v' (n + len) (nus .u8 (zs ++ bs)) → w.grownBy w' v.ownBlock → K (a.put o.dst v') w') :
    o.wp Tryd.prog a w K Q := by
  obtain ⟨i0, hi, hz0, hz1, hz2⟩ := info_parts Tryd.info5
  obtain ⟨a', cap', e, h1, h2, h3⟩ := hr
  simp only [Value.slice.injEq] at e
  obtain ⟨rfl, he, rfl⟩ := e
  rw [nus_length] at he h1 h3
  subst he
  cases ao with
  | none =>
    obtain rfl := hn rfl
    have hb : bs = [] := by cases bs with | nil => rfl | cons _ _ => simp at h1
    subst hb
    have hrun := run_append_owned_none (P := Tryd.prog) (w := w) base 90 o.type 5 i0 1 Tryd.underlying90 hi v n (nus .u8 zs) hown
    unfold Oper.wp
    simp [execOp, ho, resolve, invoke, builtin, hs, hx, hrun, Result.andThen]
    exact h v w (by simpa using hown) (World.grownBy.refl _ _)
  | some ad =>
    refine wp_append_own w s x 90 ho base 5 i0 (.int .u8 0) 1 1 Tryd.underlying90 hi hz0 hz1 hz2 rfl (by decide) v n (nus .u8 zs) hs hown ad bs.length cap (nus .u8 bs) hx (by rw [nus_length]; omega) ?_ (oneCell_nus _ _) (by unfold maxLen; omega) (by omega) hbase ?_
    · intro j u hj
      rcases h3 with h3 | ⟨b, off, e, hb, hcc⟩
      · rw [h3] at hj; simp at hj
      · cases e
        have hjl : j < (nus .u8 bs).length := (List.getElem?_eq_some_iff.1 hj).1
        rw [nus_length] at hjl
        rw [← hj]
        rw [Addr.add_lit]; exact hcc j hjl
    · intro v' w' hown' hgr _
      exact h v' w' (by rw [nus_append]; exact hown') hgr
end Go.Proofs.YtcgaibkpdihncaaDoor
namespace Go.Proofs.YtcgaibkpdihncaaDoor
section
variable {P : Program} {md : Region.Mode} {S : World → Prop} {Q : Exit → Act → World → Prop}
def lastB (md : Region.Mode) (ops : Array Oper) (n : Nat) : Bool :=
  decide (ops.size = n + 1) && ops.all (fun o => o.guard.isNone) && ((List.range (n + 1)).all fun i => ((ops[i]?).map fun o => o.after.all fun e => decide (e.on < i)).getD true) &&
  ((List.range n).all fun i => (List.range (n + 1)).any fun j => decide (i < j) && ((ops[j]?).map fun o => o.after.any fun e => Region.binds md e && decide (e.on = i)).getD false)
theorem lastB_spec {ops : Array Oper} {n : Nat} (h : lastB md ops n = true) : ops.size = n + 1 ∧ (∀ (i : Nat) (o : Oper), ops[i]? = some o → o.guard = none ∧ ∀ e ∈ o.after, e.on < i) ∧ (∀ i, i < n → ∃ j o, i < j ∧ j ≤ n ∧ ops[j]? = some o ∧ ∃ e ∈ o.after, Region.binds md e = true ∧ e.on = i) := by
  unfold lastB at h
  simp only [Bool.and_eq_true, decide_eq_true_iff] at h
  obtain ⟨⟨⟨h1, h2⟩, h3⟩, h4⟩ := h
  refine ⟨h1, fun i o ho => ⟨?_, fun e he => ?_⟩, fun i hi => ?_⟩
  · have := Array.all_eq_true_iff_forall_mem.1 h2 o (Array.mem_of_getElem? ho)
    simpa using this
  · have hi : i < n + 1 := by have := (Array.getElem?_eq_some_iff.1 ho).1; omega
    have := List.all_eq_true.1 h3 i (List.mem_range.2 hi)
    rw [ho] at this
    have := Array.all_eq_true_iff_forall_mem.1 this e he
    exact of_decide_eq_true this
  · have := List.all_eq_true.1 h4 i (List.mem_range.2 hi)
    obtain ⟨j, hj, hb⟩ := List.any_eq_true.1 this
    rw [Bool.and_eq_true] at hb
    have hjn := List.mem_range.1 hj
    have hoj : ops[j]? = some ops[j] := Array.getElem?_eq_getElem (by omega)
    have hb2 := hb.2
    have hb0 := hb.1
    rw [hoj] at hb2
    obtain ⟨e, he, hb⟩ := Array.any_eq_true'.1 hb2
    rw [Bool.and_eq_true] at hb
    exact ⟨j, _, of_decide_eq_true hb0, by omega, hoj, e, he, hb.1, of_decide_eq_true hb.2⟩
theorem pop_at {α : Type} (ops : Array α) (n i : Nat) (h : ops.size = n + 1) (hi : i < n) : ops.pop[i]? = ops[i]? := by
  rw [Array.getElem?_pop, if_pos (by omega)]
theorem set_push (l : Array Bool) (i : Nat) (h : i < l.size) : (l.push false).setIfInBounds i true = (l.setIfInBounds i true).push false := by
  apply Array.ext_getElem?
  intro j
  simp only [Array.getElem?_setIfInBounds, Array.getElem?_push, Array.size_setIfInBounds, Array.size_push]
  by_cases e : i = j
  · subst e; simp [h, Nat.ne_of_lt h]; omega
  · simp [e]
theorem push_at (l : Array Bool) (i : Nat) (d : Bool) (h : i < l.size) : (l.push false).getD i d = l.getD i d := by
  simp [Array.getD_eq_getD_getElem?, Array.getElem?_push_lt h, Array.getElem?_eq_getElem h]
def ahead (P : Program) (ops : Array Oper) (n : Nat) (Q : Exit → Act → World → Prop) : Exit → Act → World → Prop := fun c a w => match c with
  | .normal => wpOp P ops Q n (fun a' w' => Q .normal a' w') a w
  | c => Q c a w
theorem op_same {ops : Array Oper} {n i : Nat} {o : Oper} (hi : ops[i]? = some o) (hp : ops.pop[i]? = some o) (hg : o.guard = none) {K : Act → World → Prop} {a : Act} {w : World} (h : wpOp P ops.pop (ahead P ops n Q) i K a w) : wpOp P ops Q i K a w := by
  have hw : ∀ f, Region.wanted o f = true := fun f => by simp [Region.wanted, hg]
  unfold wpOp at h ⊢
  rw [hp] at h
  rw [hi]
  simp only [hw, if_true] at h ⊢
  exact h
theorem any_done {ops : Array Oper} {listed : Array Bool} {a : Act} {w : World} (hr : Region.ready md ops listed = []) (h : Q .normal a w) : ∀ f, wpAny P md ops Q f listed a w
  | 0 => ⟨hr, h⟩
  | _ + 1 => ⟨fun _ => h, by rw [hr]; simp⟩
theorem some_ready {ops : Array Oper} {listed : Array Bool} (hs : listed.size = ops.size) (hb : ∀ (i : Nat) (o : Oper), ops[i]? = some o → ∀ e ∈ o.after, e.on < i) : ∀ (i : Nat), i < ops.size → listed.getD i true = false → Region.ready md ops listed ≠ [] := by
  intro i
  induction i using Nat.strongRecOn with
  | _ i ih =>
    intro hi hl he
    have hoi : ops[i]? = some ops[i] := Array.getElem?_eq_getElem hi
    by_cases hall : ∀ e ∈ (ops[i]).after, Region.binds md e = true → listed.getD e.on false = true
    · have : i ∈ Region.ready md ops listed := mem_ready.2 ⟨hl, _, hoi, hall⟩
      rw [he] at this; cases this
    · simp only [Classical.not_forall] at hall
      obtain ⟨e, hem, _, hne⟩ := hall
      have hlt := hb i _ hoi e hem
      refine ih e.on hlt (by omega) ?_ he
      have hsz : e.on < listed.size := by omega
      simp [Array.getD_eq_getD_getElem?, Array.getElem?_eq_getElem hsz] at hne ⊢
      exact hne
def Closed (md : Region.Mode) (ops : Array Oper) (listed : Array Bool) : Prop := ∀ j o, ops[j]? = some o → listed.getD j false = true → ∀ e ∈ o.after, Region.binds md e = true → listed.getD e.on false = true
theorem Closed.set {ops : Array Oper} {listed : Array Bool} {i : Nat} {o : Oper} (h : Closed md ops listed) (ho : ops[i]? = some o) (hi : ∀ e ∈ o.after, Region.binds md e = true → listed.getD e.on false = true) : Closed md ops (listed.setIfInBounds i true) := by
  have keep : ∀ k, listed.getD k false = true → (listed.setIfInBounds i true).getD k false = true := fun k hk => by
    have hks : k < listed.size := by
      rcases Nat.lt_or_ge k listed.size with q | q
      · exact q
      · simp [Array.getD_eq_getD_getElem?, Array.getElem?_eq_none q] at hk
    by_cases e : i = k
    · subst e; simp [Array.getD_eq_getD_getElem?, hks]
    · simp [Array.getD_eq_getD_getElem?, e] at hk ⊢; exact hk
  intro j o' ho' hl e he hb
  by_cases hij : i = j
  · subst hij
    cases Option.some.inj (ho.symm.trans ho')
    exact keep _ (hi e he hb)
  · refine keep _ (h j o' ho' ?_ e he hb)
    simp [Array.getD_eq_getD_getElem?, hij] at hl ⊢; exact hl
theorem held_step {ops : Array Oper} {n fuel : Nat} (hB : lastB md ops n = true) (listed : Array Bool) (a : Act) (w : World) (hs : listed.size = n) (hcl : Closed md ops listed)
    (hA : Region.ready md ops.pop listed = [] → ahead P ops n Q .normal a w)
    (hI : ∀ i ∈ Region.ready md ops.pop listed, wpOp P ops Q i (wpAny P md ops Q fuel ((listed.push false).setIfInBounds i true)) a w) : wpAny P md ops Q (fuel + 1) (listed.push false) a w := by
  obtain ⟨hn, hall, hlast⟩ := lastB_spec hB
  have hpn : (listed.push false).getD n true = false := by rw [← hs]; simp [Array.getD_eq_getD_getElem?]
  refine ⟨fun h0 => absurd h0 (some_ready (by rw [Array.size_push]; omega) (fun i o ho => (hall i o ho).2) n (by omega) hpn), fun i hi => ?_⟩
  obtain ⟨h1, o, ho, h2⟩ := mem_ready.1 hi
  have hlt := (Array.getElem?_eq_some_iff.1 ho).1
  by_cases hin : i < n
  · refine hI i (mem_ready.2 ⟨?_, o, ?_, fun e he hb => ?_⟩)
    · rw [← push_at listed i true (by omega)]; exact h1
    · rw [pop_at ops n i hn hin]; exact ho
    · have := (hall i o ho).2 e he
      rw [← push_at listed e.on false (by omega)]; exact h2 e he hb
  · obtain rfl : i = n := by omega
    have hdone : ∀ (d j : Nat), i - j = d → j < i → listed.getD j false = true := fun d => by
      induction d using Nat.strongRecOn with
      | _ d ih =>
        intro j hd hj
        obtain ⟨j', o', hlt', hle', ho', e, he, hb, hon⟩ := hlast j hj
        by_cases hq : j' = i
        · subst hq
          cases Option.some.inj (ho.symm.trans ho')
          have := h2 e he hb
          rw [hon, push_at listed j false (by omega)] at this
          exact this
        · have := hcl j' o' ho' (ih (i - j') (by omega) j' rfl (by omega)) e he hb
          rw [hon] at this; exact this
    replace hdone : ∀ j, j < i → listed.getD j false = true := fun j hj => hdone _ j rfl hj
    have hr : Region.ready md ops.pop listed = [] := by
      rw [List.eq_nil_iff_forall_not_mem]
      intro j hj
      obtain ⟨q1, o', ho', _⟩ := mem_ready.1 hj
      have hjn : j < i := by
        have := (Array.getElem?_eq_some_iff.1 ho').1
        rw [Array.size_pop] at this
        omega
      have q2 := hdone j hjn
      have hsz : j < listed.size := by omega
      simp [Array.getD_eq_getD_getElem?, Array.getElem?_eq_getElem hsz] at q1 q2
      rw [q1] at q2; cases q2
    refine wpOp_mono (fun a' w' h' => any_done ?_ h' _) (hA hr)
    rw [List.eq_nil_iff_forall_not_mem]
    intro j hj
    obtain ⟨q1, o', ho', _⟩ := mem_ready.1 hj
    have hjl := (Array.getElem?_eq_some_iff.1 ho').1
    by_cases hji : j = i
    · subst hji
      simp [Array.getD_eq_getD_getElem?, hs] at q1
    · have q2 := hdone j (by omega)
      have hsz : j < listed.size := by omega
      simp [Array.getD_eq_getD_getElem?, Ne.symm hji, Array.getElem?_push_lt hsz] at q1
      simp [Array.getD_eq_getD_getElem?, Array.getElem?_eq_getElem hsz] at q2
      rw [q1] at q2; cases q2
theorem held_last {ops : Array Oper} {n : Nat} (hB : lastB md ops n = true) : ∀ (fuel : Nat) (listed : Array Bool) (a : Act) (w : World), listed.size = n → Closed md ops listed →
    wpAnyH P md ops.pop (ahead P ops n Q) S fuel listed a w → wpAny P md ops Q (fuel + 1) (listed.push false) a w := by
  obtain ⟨hn, hall, hlast⟩ := lastB_spec hB
  intro fuel
  induction fuel with
  | zero =>
    intro listed a w hs hcl h
    exact held_step hB listed a w hs hcl (fun _ => h.2) (fun i hi => by rw [h.1] at hi; cases hi)
  | succ f ih =>
    intro listed a w hs hcl h
    refine held_step hB listed a w hs hcl h.1 (fun i hi => ?_)
    obtain ⟨_, o0, ho0, hready⟩ := mem_ready.1 hi
    have hin : i < n := by
      have ho := ho0
      have := (Array.getElem?_eq_some_iff.1 ho).1
      rw [Array.size_pop] at this
      omega
    have hp : ops.pop[i]? = ops[i]? := pop_at ops n i hn hin
    have ho : ops[i]? = some ops[i] := Array.getElem?_eq_getElem (by omega)
    refine op_same ho (hp.trans ho) (hall i _ ho).1 (wpOp_mono (fun a' w' h' => ?_) (h.2 i hi))
    have := ih (listed.setIfInBounds i true) a' w' (by rw [Array.size_setIfInBounds, hs]) (hcl.set (hp.symm.trans ho0) hready) h'.2
    rw [set_push listed i (by omega)]
    exact this
theorem wp_region_held_last {ops : Array Oper} {id n : Nat} {a : Act} {w : World} (hm : P.follows .mixedOrders = true) (hB : lastB .any ops n = true)
    (h : wpAnyH P .any ops.pop (ahead P ops n Q) S n (Array.replicate n false) a w.drew) : (Code.region id ops true).wp P Q a w := by
  have hn := (lastB_spec hB).1
  have := held_last hB n (Array.replicate n false) a w.drew (by simp) (fun j o _ hl => by
    rcases Nat.lt_or_ge j n with q | q <;> simp [Array.getD_eq_getD_getElem?, q] at hl) h
  refine wp_region_any hm ?_
  rw [hn, Array.replicate_succ]
  exact this
end
end Go.Proofs.YtcgaibkpdihncaaDoor
