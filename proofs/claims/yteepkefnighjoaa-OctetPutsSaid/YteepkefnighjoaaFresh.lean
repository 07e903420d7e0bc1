/- append([]T{}, b...) and small words for OctetPuts. -/
import Derived.Test.YteepkefnighjoaaOctL
import Derived.Test.YteepkefnighjoaaRow
import Derived.Test.YteepkefnighjoaaJoin
import Derived.Laws.AppendOwnNone
namespace Go.Proofs.Yteepkefnighjoaa
open Go.RowKit

/-- 'append([]T{}, b...)': a row of the call's own, the same numbers. -/
theorem wpList_fresh {w : World} {ops : Array Oper} {rest : List Oper} {o : Oper} {a : Act} {Q : Exit → Act → World → Prop} (hgd : o.guard = none) (s x : Operand)
    (ho : o.op = .call { callee := .builtin .append, args := #[s, x], argTypes := #[22, 22] })
    (base : Nat) (v : Value) (hs : a.eval s = v) (hown : w.ownsRow base 5 1 v 0 (nus .u8 [])) (hv : v ≠ .slice none 0 0)
    (ao : Option Addr) (len cap : Nat) (bs : List Nat) (hx : a.eval x = .slice ao len cap) (hr : Rd w (.slice ao len cap) (nus .u8 bs)) (hn : ao = none → len = 0 ∧ cap = 0) (hlen : len ≤ 1000) (hbase : base ≤ w.heap.size)
    (h : ∀ g' cap' w', len ≤ cap' → w'.ownsRow base 5 1 (.slice (some ⟨g', 0, none⟩) len cap') len (nus .u8 bs) → w.grownBy w' v.ownBlock → wpList Try.prog ops Q rest (a.put o.dst (.slice (some ⟨g', 0, none⟩) len cap')) w') :
    wpList Try.prog ops Q (o :: rest) a w := by
  obtain ⟨i0, hi, hz0, hz1, hz2⟩ := info_parts Try.info5
  cases ao with
  | none =>
    obtain ⟨rfl, rfl⟩ := hn rfl
    refine wpList_append_own_none hgd s x 22 ho base 5 i0 1 Try.underlying22 hi v 0 (nus .u8 []) hs hown hx ?_
    have hl := hr.le
    obtain ⟨a', cap', e, -, -, -⟩ := hr
    simp only [Value.slice.injEq] at e
    have hb : bs = [] := by have := e.2.1; rw [nus_length] at this; exact List.eq_nil_of_length_eq_zero this.symm
    subst hb
    rcases hown.2 with ⟨h1, _⟩ | ⟨g, cap', cur, rfl, _, _, hn, hm, _⟩
    · exact absurd h1 hv
    · exact h g cap' w (Nat.zero_le _) hown (World.grownBy.refl _ _)
  | some ad =>
    obtain ⟨a', cap', e, h1, h2, h3⟩ := hr
    simp only [Value.slice.injEq] at e
    obtain ⟨rfl, he, rfl⟩ := e
    rw [nus_length] at he h3
    subst he
    refine wpList_append_own w hgd s x 22 ho base 5 i0 (.int .u8 0) 1 1 Try.underlying22 hi hz0 hz1 hz2 rfl (by decide) v 0 (nus .u8 []) hs hown ad bs.length cap (nus .u8 bs) hx (by rw [nus_length]; omega) ?_ (oneCell_nus _ _) (by unfold maxLen; omega) (by omega) hbase ?_
    · intro j u hj
      rcases h3 with h3 | ⟨b, off, e, hb, hcc⟩
      · rw [h3] at hj; simp at hj
      · cases e
        have hjl : j < (nus .u8 bs).length := (List.getElem?_eq_some_iff.1 hj).1
        rw [nus_length] at hjl
        rw [← hj]
        rw [Addr.add_lit]; exact hcc j hjl
    · intro v' w' hown' hgr hnil
      rw [Nat.zero_add] at hown'
      rcases hown'.2 with ⟨h1, _⟩ | ⟨g, cap', cur, rfl, _, _, hn, hm, _⟩
      · exact absurd (hnil.1 h1).1 hv
      · exact h g cap' w' hn (by simpa [nus] using hown') hgr

/-- Does not fit. -/
theorem there_no (len s : Nat) (at0 : Int) (h : ¬ (0 ≤ at0 ∧ at0 + s ≤ len)) : at0 < 0 ∨ (len : Int) < at0 + s := by omega
theorem World.ownsRow.belowB {w w' : World} {base : Nat} {e : TypeId} {v : Value} {n : Nat} {xs : List Value} (h : w.ownsRow base e 1 v n xs) (hb : Below w.heap.size w w') : w'.ownsRow base e 1 v n xs := by
  obtain ⟨h1, h2⟩ := h
  refine ⟨h1, ?_⟩
  rcases h2 with h2 | ⟨g, cap', cur, rfl, hh, h4, hn, hm, h5⟩
  · exact .inl h2
  · refine .inr ⟨g, cap', cur, rfl, hh, ?_, hn, hm, h5⟩
    have hg : g < w.heap.size := (Array.getElem?_eq_some_iff.1 h4).1
    rw [hb.block g hg]; exact h4
end Go.Proofs.Yteepkefnighjoaa
