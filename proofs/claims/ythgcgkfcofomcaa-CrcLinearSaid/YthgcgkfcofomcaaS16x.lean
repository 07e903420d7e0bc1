/- Bytes that are made; rows that lie in a block. -/
import Derived.Test.YthgcgkfcofomcaaS16v
import Derived.Test.YthgcgkfcofomcaaAp
import Derived.OwnWalk
namespace Go.Proofs.Ythgcgkfcofomcaa
open Go.RowKit Go.Lib

/-- A row that lies whole in a block, as a slice. -/
theorem rd_blk {w : World} {g : Nat} {t : TypeId} {k : IntKind} {l : List Nat} (n : Nat) (hn : l.length = n) (hm : n ≤ maxLen) (h : Blk w g t (nus k l).toArray) : Rd w (.slice (some ⟨g, 0, none⟩) n n) (nus k l) :=
  Rd.own (own_of_heap (base := g) h (Nat.le_refl _) (by rw [nus_length]; exact hn) hm)
theorem run_bytes (n : Nat) (hn : n ≤ 1048576) (w : World) : ∃ w', (Instr.makeSlice 23 (.int .i64 (n : Int)) (.int .i64 (n : Int))).run Try.prog w = .ok (.slice (some ⟨w.heap.size, 0, none⟩) n n) w' ∧ Blk w' w.heap.size 5 (nus .u8 (List.replicate n 0)).toArray ∧ Below w.heap.size w w' := by
  obtain ⟨i0, hi, hz0, hz1, hz2⟩ := info_parts Try.info5
  obtain ⟨w', hrun, r1, r2⟩ := run_make_full (P := Try.prog) w w.heap.size 23 5 i0 (.int .u8 0) 1 Try.underlying23 hi hz0 hz1 .i64 .i64 n (by rw [hz2]; omega) (by unfold maxLen; omega) (Nat.le_refl _)
  have hr : (madeCells #[Value.int .u8 0] (n * 1)).toList = nus .u8 (List.replicate n 0) := by
    rw [toList_madeCells_one, Nat.mul_one]
    simp [nus]
  refine ⟨w', hrun, ?_, (Below.refl _ _).grown r2 (Nat.le_refl _) (fun k e => by cases e)⟩
  have r3 := r1
  rw [show (Value.int IntKind.u8 0).cells = #[Value.int .u8 0] from rfl, hr] at r3
  exact (own_heap r3).1
theorem wp_bytes {o : Oper} {a : Act} {w : World} {K : Act → World → Prop} {Q : Exit → Act → World → Prop} (l c : Operand) (hop : o.op = Op.makeSlice 23 l c) (n : Nat) (hn : n ≤ 1048576) (hl : a.eval l = .int .i64 (n : Int)) (hc : a.eval c = .int .i64 (n : Int))
    (hK : ∀ w', Blk w' w.heap.size 5 (nus .u8 (List.replicate n 0)).toArray → Below w.heap.size w w' → K (a.put o.dst (.slice (some ⟨w.heap.size, 0, none⟩) n n)) w') : Oper.wp Try.prog o a w K Q := by
  obtain ⟨w', hrun, r1, r2⟩ := run_bytes n hn w
  unfold Oper.wp
  simp [execOp, hop, hl, hc, hrun, Result.andThen]
  exact hK w' r1 r2
theorem wpList_bytes {ops : Array Oper} {rest : List Oper} {o : Oper} {a : Act} {w : World} {Q : Exit → Act → World → Prop} (hg : o.guard = none) (l c : Operand) (hop : o.op = Op.makeSlice 23 l c) (n : Nat) (hn : n ≤ 1048576) (hl : a.eval l = .int .i64 (n : Int)) (hc : a.eval c = .int .i64 (n : Int))
    (hK : ∀ w', Blk w' w.heap.size 5 (nus .u8 (List.replicate n 0)).toArray → Below w.heap.size w w' → wpList Try.prog ops Q rest (a.put o.dst (.slice (some ⟨w.heap.size, 0, none⟩) n n)) w') : wpList Try.prog ops Q (o :: rest) a w := by
  refine wpList_plain hg fun K hK' => ?_
  exact wp_bytes l c hop n hn hl hc fun w' h1 h2 => hK' _ _ (hK w' h1 h2)
/-- Exclusive ors so far. -/
def XorTo (xs ys : List Nat) (k : Nat) (L : List Nat) : Prop := L.length = xs.length ∧ ∀ j, j < k → L.getD j 0 = xs.getD j 0 ^^^ ys.getD j 0
theorem XorTo.next {xs ys L : List Nat} {k : Nat} (h : XorTo xs ys k L) (hk : k < xs.length) : XorTo xs ys (k + 1) (L.set k (xs.getD k 0 ^^^ ys.getD k 0)) := by
  obtain ⟨h1, h2⟩ := h
  refine ⟨by rw [List.length_set, h1], fun j hj => ?_⟩
  rw [List.getD_eq_getElem?_getD]
  by_cases e : j = k
  · subst e
    rw [List.getElem?_set_self (by omega)]
    rfl
  · rw [List.getElem?_set_ne (by omega), ← List.getD_eq_getElem?_getD]
    exact h2 j (by omega)
theorem XorTo.all {xs ys L : List Nat} (h : XorTo xs ys xs.length L) (hl : xs.length ≤ ys.length) : L = List.zipWith (· ^^^ ·) xs (ys.take xs.length) := by
  obtain ⟨h1, h2⟩ := h
  apply List.ext_getElem
  · rw [h1, List.length_zipWith, List.length_take]; omega
  · intro i hi hj
    have a := h2 i (by omega)
    rw [List.getD_eq_getElem?_getD, List.getElem?_eq_getElem hi, List.getD_eq_getElem?_getD, List.getElem?_eq_getElem (by omega), List.getD_eq_getElem?_getD, List.getElem?_eq_getElem (by omega)] at a
    simp only [Option.getD_some] at a
    rw [a]
    simp
theorem nusa_set (k : IntKind) (l : List Nat) (i v : Nat) : (nus k l).toArray.setIfInBounds i (.int k (v : Int)) = (nus k (l.set i v)).toArray := by
  unfold nus
  rw [List.setIfInBounds_toArray, List.map_set]
theorem nusa_at (k : IntKind) (l : List Nat) (i : Nat) (h : i < l.length) : (nus k l).toArray[i]? = some (.int k ((l.getD i 0 : Nat) : Int)) := by
  rw [List.getElem?_toArray]
  exact nus_get k l i h
theorem xor_lt_256 (l m : List Nat) (h1 : ∀ c ∈ l, c < 256) (h2 : ∀ c ∈ m, c < 256) : ∀ c ∈ List.zipWith (· ^^^ ·) l m, c < 256 := by
  intro c hc
  obtain ⟨i, hi, rfl⟩ := List.getElem_of_mem hc
  rw [List.getElem_zipWith]
  exact Nat.xor_lt_two_pow (n := 8) (h1 _ (List.getElem_mem _)) (h2 _ (List.getElem_mem _))
theorem zeros_lt (n : Nat) : ∀ c ∈ List.replicate n 0, c < 256 := by
  intro c hc
  rw [(List.mem_replicate.1 hc).2]
  decide
end Go.Proofs.Ythgcgkfcofomcaa
