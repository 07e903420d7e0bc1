/- Texts that the walks of this seat lean on, put together. -/
import Derived.Great.BuildSlice
import Derived.Laws.AppendOwnNone
import Derived.Deep.CutBlock
import Derived.Deep.DeepCutAuto
import Derived.LoopTactic
import Derived.Handy
import Derived.Test.YthldpnifodbheaaTk
import Derived.Test.YthldpnifodbheaaTl
import Derived.Test.YthldpnifodbheaaM25
import Derived.Test.YthldpnifodbheaaM27
namespace Go.Proofs.Ythldpnifodbheaa
open Go.RowKit Go.Lib
set_option maxRecDepth 100000 in
theorem fill_int (n : Int) : Instr.fill (fun i => some (i * 1, 1)) ((Array.range (1 * 1)).map ((Value.int .i64 0).cells[· % (Value.int .i64 0).cells.size]!)) [(0, .int .i64 n)] = some #[.int .i64 n] := by kernel_rfl
set_option maxRecDepth 100000 in
theorem wpI_one {o : Oper} {a : Act} {w : World} {K : Act → World → Prop} {Q : Exit → Act → World → Prop} (x : Operand) (ho : o.op = .buildSlice 22 1 #[(0, x)]) (n : Nat) (hx : a.eval x = .int .i64 (n : Int))
    (h : ∀ w', Blk w' w.heap.size 3 (nus .i64 [n]).toArray → Below w.heap.size w w' → K (a.put o.dst (.slice (some ⟨w.heap.size, 0, none⟩) 1 1)) w') : o.wp Try.prog a w K Q := by
  obtain ⟨i, hi, hz, hs, -⟩ := info_parts info3
  refine wp_buildSlice 22 3 1 #[(0, x)] ho #[.int .i64 (n : Int)] i _ Try.underlying22 hi hz (by rw [hs]; omega) (by rw [hs]; omega) ?_ (h _ (World.alloc_heap_new w _) ((Below.refl _ w).alloc (Nat.le_refl _) _))
  rw [hs]
  rw [show ((#[(0, x)] : Array (Nat × Operand)).map fun (i, x) => (i, a.eval x)).toList = [(0, a.eval x)] by simp, hx]
  exact fill_int n
set_option maxRecDepth 100000 in
theorem wpI_app {w : World} {K : Act → World → Prop} {Q : Exit → Act → World → Prop} {o : Oper} {a : Act} (s x : Operand)
    (ho : o.op = .call { callee := .builtin .append, args := #[s, x], argTypes := #[22, 22] })
    (base : Nat) (v : Value) (n : Nat) (zs : List Nat) (hs : a.eval s = v) (hown : w.ownsRow base 3 1 v n (nus .i64 zs))
    (g m : Nat) (hx : a.eval x = .slice (some ⟨g, 0, none⟩) 1 1) (hb : Blk w g 3 (nus .i64 [m]).toArray) (hlen : n + 1 ≤ 1000000) (hbase : base ≤ w.heap.size)
    (h : ∀ v' w', w'.ownsRow base 3 1 v' (n + 1) (nus .i64 (zs ++ [m])) → w.grownBy w' v.ownBlock → K (a.put o.dst v') w') :
    o.wp Try.prog a w K Q := by
  obtain ⟨i0, hi, hz0, hz1, hz2⟩ := info_parts info3
  refine wp_append_own w s x 22 ho base 3 i0 (.int .i64 0) 1 8 Try.underlying22 hi hz0 hz1 hz2 rfl (by decide) v n (nus .i64 zs) hs hown ⟨g, 0, none⟩ 1 1 (nus .i64 [m]) hx (by rw [nus_length]; rfl) ?_ (oneCell_nus _ _) (by unfold maxLen; omega) (by omega) hbase ?_
  · intro j u hj
    rw [Addr.add_lit]
    have := hb.cell (0 + j)
    rw [this, ← hj, Nat.zero_add]
    simp
  · intro v' w' hown' hgr _
    exact h v' w' (by rw [nus_append]; exact hown') hgr
end Go.Proofs.Ythldpnifodbheaa
