/- Texts that the walks of this seat lean on, put together. -/
import Derived.Deep.CutBlock
import Derived.Deep.DeepCutAuto
import Derived.LoopTactic
import Derived.Handy
import Derived.Test.YthldpnifodbheaaTk
import Derived.Test.YthldpnifodbheaaM42
import Derived.Test.YthldpnifodbheaaM43
namespace Go.Proofs.Ythldpnifodbheaa
open Go.RowKit Go.Lib
def flcs (L : List Fl) : List Value := L.flatMap fun l => l.cs.toList
theorem flcs_snoc (L : List Fl) (l : Fl) : flcs (L ++ [l]) = flcs L ++ l.cs.toList := by
  unfold flcs; rw [List.flatMap_append]; simp
theorem flcs_get (L : List Fl) (hF : ∀ l ∈ L, l.Fit) (i j : Nat) (hi : i < L.length) (hj : j < 37) : (flcs L)[i * 37 + j]? = (L.getD i k0).cs.toList[j]? := by
  induction L generalizing i with
  | nil => simp at hi
  | cons x L ih =>
    have hx : x.cs.toList.length = 37 := by rw [Array.length_toList]; exact Fl.cs_size _ (hF x (List.mem_cons_self ..))
    show (x.cs.toList ++ flcs L)[_]? = _
    cases i with
    | zero => rw [List.getElem?_append_left (by omega), Nat.zero_mul, Nat.zero_add]; rfl
    | succ i =>
      rw [List.getElem?_append_right (by omega), hx, show (i + 1) * 37 + j - 37 = i * 37 + j by omega]
      exact ih (fun l hl => hF l (List.mem_cons_of_mem _ hl)) i (by simpa using hi)
def RdK (W : World) (v : Value) (L : List Fl) : Prop := ∃ a cap, v = .slice a L.length cap ∧ (L = [] ∨ ∃ g cur, a = some ⟨g, 0, none⟩ ∧ Blk W g 42 cur ∧ ∀ i, i < L.length → ∀ j (u : Value), (L.getD i k0).cs[j]? = some u → cur[i * 37 + j]? = some u)
theorem RdK.at {W : World} {a : Option Addr} {n cap : Nat} {L : List Fl} (h : RdK W (.slice a n cap) L) (i : Nat) (hi : i < L.length) : ∃ g cur, a = some ⟨g, 0, none⟩ ∧ Blk W g 42 cur ∧ ∀ j (u : Value), (L.getD i k0).cs[j]? = some u → cur[i * 37 + j]? = some u := by
  obtain ⟨a', cap', e, h⟩ := h
  simp only [Value.slice.injEq] at e
  obtain ⟨rfl, -, -⟩ := e
  rcases h with rfl | ⟨g, cur, h1, h2, h3⟩
  · simp at hi
  · exact ⟨g, cur, h1, h2, h3 i hi⟩
theorem RdK.of_own {W : World} {base : Nat} {v : Value} {L : List Fl} (h : W.ownsRow base 42 37 v L.length (flcs L)) (hF : ∀ l ∈ L, l.Fit) : RdK W v L := by
  by_cases h0 : L.length = 0
  · have : L = [] := List.eq_nil_of_length_eq_zero h0
    subst this
    obtain ⟨a, c, e⟩ := row_shape h
    exact ⟨a, c, e, .inl rfl⟩
  · obtain ⟨g, cap, cur, e, hB, hc⟩ := row_blk h (by omega)
    refine ⟨_, cap, e, .inr ⟨g, cur, rfl, hB, fun i hi j u hu => hc _ _ ?_⟩⟩
    have hm : L.getD i k0 ∈ L := by rw [List.getD_eq_getElem?_getD, List.getElem?_eq_getElem hi]; exact List.getElem_mem hi
    have hj : j < 37 := by
      have := (Array.getElem?_eq_some_iff.1 hu).1
      rwa [Fl.cs_size _ (hF _ hm)] at this
    rw [flcs_get L hF i j hi hj, Array.getElem?_toList]
    exact hu
theorem load_key {W : World} {g i : Nat} {cur : Array Value} {l : Fl} (hl : l.Fit) (h : Blk W g 42 cur) (hc : ∀ j (u : Value), l.cs[j]? = some u → cur[i * 37 + j]? = some u) :
    (loadVar 42 ⟨g, i * 37, none⟩).run Try.prog W = .ok (.agg l.cs) W := by
  have := run_loadVar_mid (P := Try.prog) W g (i * 37) 42 l.cs.toList _ (fun j v hj => by
    rw [h.cell]
    exact hc j v (by rwa [Array.getElem?_toList] at hj)) Try.underlying42 rfl (by rw [Array.length_toList]; exact fl_ik l hl)
  rwa [Array.toArray_toList] at this
theorem guard42 (op : BinOp) (x y : Operand) (A B : Array Value) (w : World) (hop : op = .eql ∨ op = .neq) : (eqGuard op 42 x y (.agg A) (.agg B)).run Try.prog w = .ok () w := by
  unfold eqGuard
  rcases hop with rfl | rfl <;> simp
theorem exec_neq42 {w : World} {o : Oper} {a : Act} (x y : Operand) (ho : o.op = .binOp .neq 42 x y 42) (A B : Array Value) (hx : a.eval x = .agg A) (hy : a.eval y = .agg B) (r : Bool) (hq : (Op.equalIn Op.maxDepth 42 (.agg A) (.agg B)).run Try.prog w = .ok r w) : (execOp a.eval o).run Try.prog w = .ok (.value (.bool (!r))) w := by
  unfold execOp
  simp only [ho, hx, hy, binOp, Op.equal, Sem.run_bind, guard42 _ x y A B w (.inr rfl), hq, Result.andThen_ok, Sem.run_pure]
theorem exec_eql42 {w : World} {o : Oper} {a : Act} (x y : Operand) (ho : o.op = .binOp .eql 42 x y 42) (A B : Array Value) (hx : a.eval x = .agg A) (hy : a.eval y = .agg B) (r : Bool) (hq : (Op.equalIn Op.maxDepth 42 (.agg A) (.agg B)).run Try.prog w = .ok r w) : (execOp a.eval o).run Try.prog w = .ok (.value (.bool r)) w := by
  unfold execOp
  simp only [ho, hx, hy, binOp, Op.equal, Sem.run_bind, guard42 _ x y A B w (.inl rfl), hq, Result.andThen_ok, Sem.run_pure]
theorem eq_fl (a b : Fl) (ha : a.Fit) (hb : b.Fit) (w : World) : (Op.equalIn 10000 42 (.agg a.cs) (.agg b.cs)).run Try.prog w = .ok (decide (a = b)) w := by
  by_cases h : a = b
  · subst h; rw [decide_eq_true rfl]; exact eq_fl_yes a ha w
  · rw [decide_eq_false h]; exact eq_fl_no a b ha hb h w
theorem eq_plS (s a b : Nat) (hs : s < 4294967296) (ha : a < 4294967296) (hb : b < 4294967296) (w : World) : (Op.equalIn 10000 51 (.agg #[.int .i64 (s : Int), .int .i64 (a : Int)]) (.agg #[.int .i64 (s : Int), .int .i64 (b : Int)])).run Try.prog w = .ok (decide (a = b)) w := by
  have h := eqP (s, a) (s, b) ⟨hs, ha⟩ ⟨hs, hb⟩ w
  rw [show decide ((s, a) = (s, b)) = decide (a = b) by simp] at h
  exact h
theorem info42 : (Try.prog.info? 42).map (fun i => (i.zero, i.size, i.bytes)) = some (some (.agg k0.cs), 37, 40) := by kernel_rfl
end Go.Proofs.Ythldpnifodbheaa
