/- append to a row of the call's own. -/
import Derived.Test.YthgcgkfcofomcaaU8
import Derived.WalkKit
import Derived.Test.YthgcgkfcofomcaaRow
import Derived.Laws.AppendOwnNone
import Derived.BigFrame
namespace Go.Proofs.Ythgcgkfcofomcaa
open Go.RowKit

/-- 'append(row, b...)' to a row of the call's own, under a guard that holds: the row with the numbers behind. -/
theorem wpList_app {w : World} {ops : Array Oper} {rest : List Oper} {o : Oper} {a : Act} {Q : Exit → Act → World → Prop} (hw : Region.wanted o (yielded ops a.tmps) = true) (s x : Operand)
    (ho : o.op = .call { callee := .builtin .append, args := #[s, x], argTypes := #[23, 23] })
    (base : Nat) (v : Value) (n : Nat) (zs : List Nat) (hs : a.eval s = v) (hown : w.ownsRow base 5 1 v n (nus .u8 zs))
    (ao : Option Addr) (len cap : Nat) (bs : List Nat) (hx : a.eval x = .slice ao len cap) (hr : Rd w (.slice ao len cap) (nus .u8 bs)) (hn : ao = none → cap = 0) (hlen : n + len ≤ 1000000) (hbase : base ≤ w.heap.size)
    (h : ∀ v' w', w'.ownsRow base 5 1 v' (n + len) (nus .u8 (zs ++ bs)) → w.grownBy w' v.ownBlock → wpList Try.prog ops Q rest (a.put o.dst v') w') :
    wpList Try.prog ops Q (o :: rest) a w := by
  obtain ⟨i0, hi, hz0, hz1, hz2⟩ := info_parts Try.info5
  obtain ⟨a', cap', e, h1, h2, h3⟩ := hr
  simp only [Value.slice.injEq] at e
  obtain ⟨rfl, he, rfl⟩ := e
  rw [nus_length] at he h1 h3
  subst he
  refine BigFrame.wpList_want hw fun K hK => ?_
  cases ao with
  | none =>
    obtain rfl := hn rfl
    have hb : bs = [] := by cases bs with | nil => rfl | cons _ _ => simp at h1
    subst hb
    have hrun := run_append_owned_none (P := Try.prog) (w := w) base 23 o.type 5 i0 1 Try.underlying23 hi v n (nus .u8 zs) hown
    unfold Oper.wp
    simp [execOp, ho, resolve, invoke, builtin, hs, hx, hrun, Result.andThen]
    exact hK _ _ (h v w (by simpa using hown) (World.grownBy.refl _ _))
  | some ad =>
    refine wp_append_own w s x 23 ho base 5 i0 (.int .u8 0) 1 1 Try.underlying23 hi hz0 hz1 hz2 rfl (by decide) v n (nus .u8 zs) hs hown ad bs.length cap (nus .u8 bs) hx (by rw [nus_length]; omega) ?_ (oneCell_nus _ _) (by unfold maxLen; omega) (by omega) hbase ?_
    · intro j u hj
      rcases h3 with h3 | ⟨b, off, e, hb, hcc⟩
      · rw [h3] at hj; simp at hj
      · cases e
        have hjl : j < (nus .u8 bs).length := (List.getElem?_eq_some_iff.1 hj).1
        rw [nus_length] at hjl
        rw [← hj]
        rw [Addr.add_lit]; exact hcc j hjl
    · intro v' w' hown' hgr _
      exact hK _ _ (h v' w' (by rw [nus_append]; exact hown') hgr)
/-- A row of no elements. -/
theorem own_none (w : World) (e : TypeId) : (w.alloc (.cells #[] e)).ownsRow w.heap.size e 1 (.slice (some ⟨w.heap.size, 0, none⟩) 0 0) 0 (nus .u8 []) :=
  own_of_heap (show (w.heap.push (.cells #[] e))[w.heap.size]? = _ by simp [nus]) (Nat.le_refl _) rfl (by simp [maxLen])
end Go.Proofs.Ythgcgkfcofomcaa
