/- The operations of two appends, one by one. -/
import Derived.Test.YtacjkcmiiajabaaOctI
import Derived.Test.YtacjkcmiiajabaaTwoApp
namespace Go.Proofs.Ytacjkcmiiajabaa
open Go.RowKit Go.Shelf

theorem tmp_at {a : Act} {s : Nat} {v : Value} (h : a.eval (.tmp s) = v) : a.tmps[s]?.getD undef = v := by
  rw [← h]; simp [Act.eval, Array.getD_eq_getD_getElem?]

theorem ap_load (Q : Exit → Act → World → Prop) (d s B : Nat) (pos : String) (af : Array Edge) (K : Act → World → Prop) (a : Act) (w : World) (v : Value) (h : a.eval (.tmp s) = .pointer (some ⟨B, 0, none⟩)) (hb : Boxed w B 47 v) (hK : K (a.put (some d) v) w) :
    Oper.wp Try.prog { dst := some d, op := Op.load 47 (.tmp s), type := 47, pos := pos, after := af, guard := none } a w K Q := by
  have hc := hb.cell
  have h' := tmp_at h
  clear h hb
  go_simp
  exact hK
theorem ap_move (Q : Exit → Act → World → Prop) (d s : Nat) (t : TypeId) (pos : String) (af : Array Edge) (K : Act → World → Prop) (a : Act) (w : World) (v : Value) (h : a.eval (.tmp s) = v) (hK : K (a.put (some d) v) w) :
    Oper.wp Try.prog { dst := some d, op := Op.move (.tmp s), type := t, pos := pos, after := af, guard := none } a w K Q := by
  have h' := tmp_at h
  clear h
  go_simp
  exact hK
theorem ap_build (Q : Exit → Act → World → Prop) (d s : Nat) (pos : String) (af : Array Edge) (K : Act → World → Prop) (a : Act) (w : World) (n : Int) (h : a.eval (.tmp s) = .int .i64 n) (hK : K (a.put (some d) (.slice (some ⟨w.heap.size, 0, none⟩) 1 1)) (w.alloc (.cells #[.int .i64 n] 3))) :
    Oper.wp Try.prog { dst := some d, op := Op.buildSlice 47 1 #[(0, .tmp s)], type := 47, pos := pos, after := af, guard := none } a w K Q := by
  have h' := tmp_at h
  clear h
  go_simp
  exact hK
theorem ap_store (Q : Exit → Act → World → Prop) (d s B : Nat) (t : TypeId) (pos : String) (af : Array Edge) (K : Act → World → Prop) (a : Act) (w : World) (v : Value) (g n k : Nat) (h : a.eval (.tmp s) = .pointer (some ⟨B, 0, none⟩)) (h2 : a.eval (.tmp d) = .slice (some ⟨g, 0, none⟩) n k) (hb : Boxed w B 47 v) (hK : K a (w.setCell ⟨B, 0, none⟩ (.slice (some ⟨g, 0, none⟩) n k))) :
    Oper.wp Try.prog { dst := none, op := Op.store 47 (.tmp s) (.tmp d), type := t, pos := pos, after := af, guard := none } a w K Q := by
  have hc := hb.cell
  have hf := hb.frozen
  have h' := tmp_at h
  have h2' := tmp_at h2
  clear h h2 hb
  go_simp
  exact hK
theorem aq_load (Q : Exit → Act → World → Prop) (d s B : Nat) (pos : String) (af : Array Edge) (K : Act → World → Prop) (a : Act) (w : World) (v : Value) (h : a.eval (.tmp s) = .pointer (some ⟨B, 0, none⟩)) (hb : Boxed w B 48 v) (hK : K (a.put (some d) v) w) :
    Oper.wp Try.prog { dst := some d, op := Op.load 48 (.tmp s), type := 48, pos := pos, after := af, guard := none } a w K Q := by
  have hc := hb.cell
  have h' := tmp_at h
  clear h hb
  go_simp
  exact hK
theorem aq_build (Q : Exit → Act → World → Prop) (d s : Nat) (pos : String) (af : Array Edge) (K : Act → World → Prop) (a : Act) (w : World) (n : Int) (h : a.eval (.tmp s) = .int .u16 n) (hK : K (a.put (some d) (.slice (some ⟨w.heap.size, 0, none⟩) 1 1)) (w.alloc (.cells #[.int .u16 n] 26))) :
    Oper.wp Try.prog { dst := some d, op := Op.buildSlice 48 1 #[(0, .tmp s)], type := 48, pos := pos, after := af, guard := none } a w K Q := by
  have h' := tmp_at h
  clear h
  go_simp
  exact hK
theorem aq_store (Q : Exit → Act → World → Prop) (d s B : Nat) (t : TypeId) (pos : String) (af : Array Edge) (K : Act → World → Prop) (a : Act) (w : World) (v : Value) (g n k : Nat) (h : a.eval (.tmp s) = .pointer (some ⟨B, 0, none⟩)) (h2 : a.eval (.tmp d) = .slice (some ⟨g, 0, none⟩) n k) (hb : Boxed w B 48 v) (hK : K a (w.setCell ⟨B, 0, none⟩ (.slice (some ⟨g, 0, none⟩) n k))) :
    Oper.wp Try.prog { dst := none, op := Op.store 48 (.tmp s) (.tmp d), type := t, pos := pos, after := af, guard := none } a w K Q := by
  have hc := hb.cell
  have hf := hb.frozen
  have h' := tmp_at h
  have h2' := tmp_at h2
  clear h h2 hb
  go_simp
  exact hK
theorem Try.info3 : (Try.prog.info? 3).map (fun i => (i.zero, i.size, i.bytes)) = some (some (.int .i64 0), 1, 8) := by kernel_rfl
theorem Try.info26 : (Try.prog.info? 26).map (fun i => (i.zero, i.size, i.bytes)) = some (some (.int .u16 0), 1, 2) := by kernel_rfl

theorem ap_app (Q : Exit → Act → World → Prop) (d s x : Nat) (pos : String) (af : Array Edge) (K : Act → World → Prop) (a : Act) (w : World) (base n p : Nat) (v : Value) (u : Int) (xs : List Value) (hn : n < 17592186044416)
    (hs : a.eval (.tmp s) = v) (hx : a.eval (.tmp x) = .slice (some ⟨p, 0, none⟩) 1 1) (hb : Boxed w p 3 (.int .i64 u)) (hr : w.ownsRow base 3 1 v n xs) (hbase : base ≤ w.heap.size)
    (hK : ∀ v' w', w'.ownsRow base 3 1 v' (n + 1) (xs ++ [.int .i64 u]) → w.grownBy w' v.ownBlock → K (a.put (some d) v') w') :
    Oper.wp Try.prog { dst := some d, op := Op.call { callee := Callee.builtin Builtin.append, args := #[.tmp s, .tmp x], argTypes := #[47, 47] }, type := 47, pos := pos, after := af, guard := none } a w K Q := by
  obtain ⟨i0, hi, hz0, hz1, hz2⟩ := info_parts Try.info3
  refine wp_append_own w (.tmp s) (.tmp x) 47 rfl base 3 i0 (.int .i64 0) 1 8 Try.underlying47 hi hz0 hz1 hz2 rfl (by decide) v n xs hs hr ⟨p, 0, none⟩ 1 1 [.int .i64 u] hx rfl ?_ ?_ ?_ ?_ hbase fun v' w' h1 h2 _ => hK v' w' h1 h2
  · intro j y hj
    match j, hj with
    | 0, hj => simp at hj; subst hj; simpa [Addr.add] using hb.cell
  · intro y hy; simp at hy; subst hy; rfl
  · unfold maxLen; omega
  · omega

theorem aq_app (Q : Exit → Act → World → Prop) (d s x : Nat) (pos : String) (af : Array Edge) (K : Act → World → Prop) (a : Act) (w : World) (base n p : Nat) (v : Value) (u : Int) (xs : List Value) (hn : n < 17592186044416)
    (hs : a.eval (.tmp s) = v) (hx : a.eval (.tmp x) = .slice (some ⟨p, 0, none⟩) 1 1) (hb : Boxed w p 26 (.int .u16 u)) (hr : w.ownsRow base 26 1 v n xs) (hbase : base ≤ w.heap.size)
    (hK : ∀ v' w', w'.ownsRow base 26 1 v' (n + 1) (xs ++ [.int .u16 u]) → w.grownBy w' v.ownBlock → K (a.put (some d) v') w') :
    Oper.wp Try.prog { dst := some d, op := Op.call { callee := Callee.builtin Builtin.append, args := #[.tmp s, .tmp x], argTypes := #[48, 48] }, type := 48, pos := pos, after := af, guard := none } a w K Q := by
  obtain ⟨i0, hi, hz0, hz1, hz2⟩ := info_parts Try.info26
  refine wp_append_own w (.tmp s) (.tmp x) 48 rfl base 26 i0 (.int .u16 0) 1 2 Try.underlying48 hi hz0 hz1 hz2 rfl (by decide) v n xs hs hr ⟨p, 0, none⟩ 1 1 [.int .u16 u] hx rfl ?_ ?_ ?_ ?_ hbase fun v' w' h1 h2 _ => hK v' w' h1 h2
  · intro j y hj
    match j, hj with
    | 0, hj => simp at hj; subst hj; simpa [Addr.add] using hb.cell
  · intro y hy; simp at hy; subst hy; rfl
  · unfold maxLen; omega
  · omega

end Go.Proofs.Ytacjkcmiiajabaa
