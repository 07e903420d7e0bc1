/- What the acts of GridActs leave in the law's own list. -/
import Derived.Test.YtimnmdeiiahakaaS19y0
import Derived.Deep.CutBlock
import Derived.Deep.DeepCutAuto
import Derived.LoopTactic
import Derived.Handy
namespace Go.Proofs.Ytimnmdeiiahakaa
open Go.RowKit Go.Lib

/-- An item of the place that is there. -/
theorem hit_item (st sz : Nat) (c : Nat → Option Int) (a b : Int) (u : Int) (hl : lkP st sz c a b = some u) (q : Nat) (hq : q = ((itF c 0 (st * sz)).takeWhile (bfP sz a b)).length) :
    ∃ k, (itF c 0 (st * sz))[q]? = some (k, u) ∧ ((k / sz : Nat) : Int) = a ∧ ((k % sz : Nat) : Int) = b ∧ k < st * sz ∧ c k = some u ∧ q = (itF c 0 k).length ∧ ∀ v, ptP st sz c a b v = putC c k v := by
  by_cases hp : inP st sz a b
  · obtain ⟨s, i, rfl, rfl, h1, h2⟩ := inP_nat hp
    rw [lkP_in c h1 h2] at hl
    have e := at_in st sz c s i q h1 h2 hq
    refine ⟨s * sz + i, ?_, by rw [plc_div sz s i h2], by rw [plc_mod sz s i h2], num_lt h1 h2, hl, e, fun v => ptP_in c h1 h2 v⟩
    rw [e]
    exact itF_nth c (st * sz) _ (num_lt h1 h2) u hl
  · rw [lkP_no c hp] at hl; cases hl
theorem set_item (st sz : Nat) (c : Nat → Option Int) (a b : Int) (u v : Int) (hl : lkP st sz c a b = some u) (q : Nat) (hq : q = ((itF c 0 (st * sz)).takeWhile (bfP sz a b)).length) :
    (itF (ptP st sz c a b (some v)) 0 (st * sz)).length = (itF c 0 (st * sz)).length ∧ icells sz (itF (ptP st sz c a b (some v)) 0 (st * sz)) = (icells sz (itF c 0 (st * sz))).set (q * 3 + 2) (.int .i64 v) := by
  obtain ⟨k, h1, h2, h3, h4, h5, h6, h7⟩ := hit_item st sz c a b u hl q hq
  rw [h7, itF_change c (st * sz) k h4 u v h5, ← h6]
  exact ⟨by rw [List.length_set], (icells_set sz _ q k u v h1).symm⟩
theorem del_item (st sz : Nat) (c : Nat → Option Int) (a b : Int) (u : Int) (hl : lkP st sz c a b = some u) (q : Nat) (hq : q = ((itF c 0 (st * sz)).takeWhile (bfP sz a b)).length) :
    (itF (ptP st sz c a b none) 0 (st * sz)).length = q + ((itF c 0 (st * sz)).length - (q + 1)) ∧ icells sz (itF (ptP st sz c a b none) 0 (st * sz)) = (icells sz (itF c 0 (st * sz))).take (q * 3) ++ (icells sz (itF c 0 (st * sz))).drop ((q + 1) * 3) := by
  obtain ⟨k, h1, h2, h3, h4, h5, h6, h7⟩ := hit_item st sz c a b u hl q hq
  have hlt := (List.getElem?_eq_some_iff.1 h1).1
  rw [h7, itF_out c (st * sz) k h4 u h5, ← h6]
  exact ⟨by rw [List.length_append, List.length_take, List.length_drop]; omega, by rw [icells_append, icells_take, icells_drop]⟩
theorem ins_item (st sz : Nat) (c : Nat → Option Int) (a b : Int) (v : Int) (hp : inP st sz a b) (hl : lkP st sz c a b = none) (q : Nat) (hq : q = ((itF c 0 (st * sz)).takeWhile (bfP sz a b)).length) :
    (itF (ptP st sz c a b (some v)) 0 (st * sz)).length = q + 1 + ((itF c 0 (st * sz)).length - q) ∧ icells sz (itF (ptP st sz c a b (some v)) 0 (st * sz)) = ((icells sz (itF c 0 (st * sz))).take (q * 3) ++ [.int .i64 a, .int .i64 b, .int .i64 v]) ++ (icells sz (itF c 0 (st * sz))).drop (q * 3) := by
  have hle : q ≤ (itF c 0 (st * sz)).length := by rw [hq]; exact (List.takeWhile_sublist _).length_le
  obtain ⟨s, i, rfl, rfl, h1, h2⟩ := inP_nat hp
  rw [lkP_in c h1 h2] at hl
  have e := at_in st sz c s i q h1 h2 hq
  rw [ptP_in c h1 h2, itF_between c (st * sz) _ (num_lt h1 h2) v hl, ← e]
  refine ⟨by simp only [List.length_append, List.length_take, List.length_drop, List.length_singleton]; omega, ?_⟩
  rw [icells_append, icells_append, icells_take, icells_drop]
  congr 2
  rw [icells_cons]
  unfold icell
  simp only [plc_div sz s i h2, plc_mod sz s i h2]
  rfl
theorem blk_ne {w : World} {g g' : Nat} {t t' : TypeId} {cs cs' : Array Value} (h : Blk w g t cs) (h' : Blk w g' t' cs') (ht : t ≠ t') : g ≠ g' := fun e => by
  subst e
  have := (show w.heap[g]? = _ from h).symm.trans h'
  simp at this
  exact ht this.2
theorem built35 (a b v : Int) : Try.prog.built 35 [(0, .agg #[.int .i64 a, .int .i64 b]), (1, .int .i64 v)] = some #[.int .i64 a, .int .i64 b, .int .i64 v] := by kernel_rfl
theorem drop_ints {xs : List Value} (h : ∀ u ∈ xs, ∃ n : Int, u = .int .i64 n) (k : Nat) : ∀ u ∈ xs.drop k, ∃ n : Int, u = .int .i64 n := fun u hu => h u (List.mem_of_mem_drop hu)
theorem take_ints {xs : List Value} (h : ∀ u ∈ xs, ∃ n : Int, u = .int .i64 n) (k : Nat) : ∀ u ∈ xs.take k, ∃ n : Int, u = .int .i64 n := fun u hu => h u (List.mem_of_mem_take hu)
theorem three_ints (a b v : Int) : ∀ u ∈ [Value.int .i64 a, .int .i64 b, .int .i64 v], ∃ n : Int, u = .int .i64 n := by
  intro u hu
  simp at hu
  rcases hu with rfl | rfl | rfl <;> exact ⟨_, rfl⟩
end Go.Proofs.Ytimnmdeiiahakaa
