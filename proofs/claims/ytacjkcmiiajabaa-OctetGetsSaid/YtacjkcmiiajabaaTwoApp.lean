/- 'a, b = append(a, x), append(b, y)', where a and b lie in boxes: a region of ten operations that draws its order. In whatever order they come up: both are longer by one. Nothing of the program. -/
import Derived.Test.YtacjkcmiiajabaaRound
namespace Go.Proofs.Ytacjkcmiiajabaa
open Go.RowKit

/-- How many are left. -/
def left10 (f : Nat → Bool) : Nat := (f 0).toNat + (f 1).toNat + (f 2).toNat + (f 3).toNat + (f 4).toNat + (f 5).toNat + (f 6).toNat + (f 7).toNat + (f 8).toNat + (f 9).toNat
def setF (f : Nat → Bool) (i : Nat) : Nat → Bool := fun j => if j = i then true else f j
theorem ten (i : Nat) (h : i < 10) : i = 0 ∨ i = 1 ∨ i = 2 ∨ i = 3 ∨ i = 4 ∨ i = 5 ∨ i = 6 ∨ i = 7 ∨ i = 8 ∨ i = 9 := by omega
theorem left10_set (f : Nat → Bool) (i : Nat) (h : i < 10) (hf : f i = false) : left10 (setF f i) = left10 f + 1 := by
  rcases ten i h with rfl | rfl | rfl | rfl | rfl | rfl | rfl | rfl | rfl | rfl <;> simp [left10, setF, hf] <;> omega
theorem left10_all (f : Nat → Bool) (h : 10 ≤ left10 f) (i : Nat) (hi : i < 10) : f i = true := by
  have hb : ∀ b : Bool, b.toNat ≤ 1 := fun b => by cases b <;> decide
  have e := hb (f 0); have e1 := hb (f 1); have e2 := hb (f 2); have e3 := hb (f 3); have e4 := hb (f 4); have e5 := hb (f 5); have e6 := hb (f 6); have e7 := hb (f 7); have e8 := hb (f 8); have e9 := hb (f 9)
  have hc : ∀ b : Bool, 1 ≤ b.toNat → b = true := fun b h => by cases b <;> simp at h ⊢
  unfold left10 at h
  rcases ten i hi with rfl | rfl | rfl | rfl | rfl | rfl | rfl | rfl | rfl | rfl <;> exact hc _ (by omega)

theorem any_inv {P : Program} {ops : Array Oper} {Q : Exit → Act → World → Prop} {md : Region.Mode} (hs : ops.size = 10) (hac : ∀ (i : Nat) (o : Oper), ops[i]? = some o → ∀ e ∈ o.after, e.on < i) (I : (Nat → Bool) → Act → World → Prop)
    (hstep : ∀ (f : Nat → Bool) a w (i : Nat) (o : Oper), I f a w → ops[i]? = some o → f i = false → (∀ e ∈ o.after, Region.binds md e = true → f e.on = true) → wpOp P ops Q i (fun a' w' => I (setF f i) a' w') a w)
    (hend : ∀ f a w, I f a w → (∀ i, i < 10 → f i = true) → Q .normal a w) :
    ∀ (fuel : Nat) (listed : Array Bool) (f : Nat → Bool) (a : Act) (w : World), listed.size = 10 → (∀ i, i < 10 → listed.getD i true = f i ∧ listed.getD i false = f i) → 10 ≤ fuel + left10 f → I f a w → wpAny P md ops Q fuel listed a w
  | 0, listed, f, a, w, hl, hf, hc, hI => by
    have hall := left10_all f (by omega)
    refine ⟨?_, hend f a w hI hall⟩
    apply List.eq_nil_iff_forall_not_mem.2
    intro i hi
    obtain ⟨h1, o, ho, _⟩ := mem_ready.1 hi
    have hlt : i < 10 := by rw [← hs]; exact (Array.getElem?_eq_some_iff.1 ho).1
    rw [(hf i hlt).1, hall i hlt] at h1
    cases h1
  | fuel + 1, listed, f, a, w, hl, hf, hc, hI => by
    refine ⟨fun hr => hend f a w hI fun i hi => ?_, fun i hi => ?_⟩
    · induction i using Nat.strongRecOn with
      | _ i ih =>
        by_cases hfi : f i = true
        · exact hfi
        · exfalso
          have hio : ∃ o, ops[i]? = some o := ⟨ops[i]'(by omega), Array.getElem?_eq_getElem (by omega)⟩
          obtain ⟨o, ho⟩ := hio
          have : i ∈ Region.ready md ops listed := mem_ready.2 ⟨by rw [(hf i hi).1]; simpa using hfi, o, ho, fun e he _ => by
            have hlt := hac i o ho e he
            rw [(hf e.on (by omega)).2]
            exact ih e.on hlt (by omega)⟩
          rw [hr] at this
          cases this
    · obtain ⟨h1, o, ho, hd⟩ := mem_ready.1 hi
      have hlt : i < 10 := by rw [← hs]; exact (Array.getElem?_eq_some_iff.1 ho).1
      rw [(hf i hlt).1] at h1
      have hst := hstep f a w i o hI ho h1 (fun e he hb => by
        have := hac i o ho e he
        rw [← (hf e.on (by omega)).2]; exact hd e he hb)
      refine wpOp_mono (fun a' w' h' => any_inv hs hac I hstep hend fuel (listed.setIfInBounds i true) (setF f i) a' w' (by simpa using hl) (fun j hj => ?_) (by rw [left10_set f i hlt h1]; omega) h') hst
      have hgj := hf j hj
      unfold setF
      by_cases e : j = i
      · subst e
        simp [Array.getD, hl, hlt]
      · rw [if_neg e]
        have : (listed.setIfInBounds i true)[j]? = listed[j]? := by rw [Array.getElem?_setIfInBounds]; simp [Ne.symm e]
        simp only [Array.getD_eq_getD_getElem?] at hgj ⊢
        rw [this]; exact hgj

/-- One of the two: its five operations' slots (what is loaded, what is moved, the slice of one, what is appended to), the slots that it reads, its box, the types of the box and of the row's elements; what the box held, and the element. -/
structure Cfg where
  dl : Nat
  dm : Nat
  db : Nat
  da : Nat
  s : Nat
  x : Nat
  Bx : Nat
  t : TypeId
  e : TypeId
  u : Value
  v : Value
  n : Nat
  xs : List Value

structure ChainOK (P : Program) (Q : Exit → Act → World → Prop) (c : Cfg) (base : Nat) (oL oM oB oA oS : Oper) : Prop where
  load : ∀ (K : Act → World → Prop) a w v, a.eval (.tmp c.s) = .pointer (some ⟨c.Bx, 0, none⟩) → Boxed w c.Bx c.t v → K (a.put (some c.dl) v) w → oL.wp P a w K Q
  move : ∀ (K : Act → World → Prop) a w, a.eval (.tmp c.x) = c.u → K (a.put (some c.dm) c.u) w → oM.wp P a w K Q
  build : ∀ (K : Act → World → Prop) a w, a.eval (.tmp c.dm) = c.u → K (a.put (some c.db) (.slice (some ⟨w.heap.size, 0, none⟩) 1 1)) (w.alloc (.cells #[c.u] c.e)) → oB.wp P a w K Q
  app : ∀ (K : Act → World → Prop) a w p, a.eval (.tmp c.dl) = c.v → a.eval (.tmp c.db) = .slice (some ⟨p, 0, none⟩) 1 1 → Boxed w p c.e c.u → w.ownsRow base c.e 1 c.v c.n c.xs → base ≤ w.heap.size →
    (∀ v' w', w'.ownsRow base c.e 1 v' (c.n + 1) (c.xs ++ [c.u]) → w.grownBy w' c.v.ownBlock → K (a.put (some c.da) v') w') → oA.wp P a w K Q
  store : ∀ (K : Act → World → Prop) a w v g k, a.eval (.tmp c.s) = .pointer (some ⟨c.Bx, 0, none⟩) → a.eval (.tmp c.da) = .slice (some ⟨g, 0, none⟩) (c.n + 1) k → Boxed w c.Bx c.t v →
    K a (w.setCell ⟨c.Bx, 0, none⟩ (.slice (some ⟨g, 0, none⟩) (c.n + 1) k)) → oS.wp P a w K Q

def Ch (c : Cfg) (base N sz : Nat) (fl fm fb fa fs : Bool) (a : Act) (w : World) : Prop :=
  ((fs = true → fa = true) ∧ (fa = true → fl = true ∧ fb = true) ∧ (fb = true → fm = true)) ∧ a.tmps.size = sz ∧ a.eval (.tmp c.s) = .pointer (some ⟨c.Bx, 0, none⟩) ∧ a.eval (.tmp c.x) = c.u ∧
  (fl = true → a.eval (.tmp c.dl) = c.v) ∧ (fm = true → a.eval (.tmp c.dm) = c.u) ∧
  (fb = true → ∃ p, a.eval (.tmp c.db) = .slice (some ⟨p, 0, none⟩) 1 1 ∧ N ≤ p ∧ Boxed w p c.e c.u) ∧
  (fa = false → w.ownsRow base c.e 1 c.v c.n c.xs) ∧ (fa = true → w.ownsRow base c.e 1 (a.eval (.tmp c.da)) (c.n + 1) (c.xs ++ [c.u])) ∧
  (fs = false → Boxed w c.Bx c.t c.v) ∧ (fs = true → Boxed w c.Bx c.t (a.eval (.tmp c.da)))

theorem eval_put_ne (a : Act) (d t : Nat) (v : Value) (h : d ≠ t) : (a.put (some d) v).eval (.tmp t) = a.eval (.tmp t) := by
  simp only [Act.put, Act.eval, Array.getD_eq_getD_getElem?]
  rw [Array.getElem?_setIfInBounds]; simp [h]
theorem eval_put_eq (a : Act) (d : Nat) (v : Value) (h : d < a.tmps.size) : (a.put (some d) v).eval (.tmp d) = v := by
  simp [Act.put, Act.eval, Array.getD_eq_getD_getElem?, h]
theorem size_put (a : Act) (d : Nat) (v : Value) : (a.put (some d) v).tmps.size = a.tmps.size := by simp [Act.put]

/-- Another slot is filled. -/
theorem Ch.put {c : Cfg} {base N sz : Nat} {fl fm fb fa fs : Bool} {a : Act} {w : World} (h : Ch c base N sz fl fm fb fa fs a w) (d : Nat) (v : Value)
    (hd : d ≠ c.s ∧ d ≠ c.x ∧ d ≠ c.dl ∧ d ≠ c.dm ∧ d ≠ c.db ∧ d ≠ c.da) : Ch c base N sz fl fm fb fa fs (a.put (some d) v) w := by
  obtain ⟨d1, d2, d3, d4, d5, d6⟩ := hd
  unfold Ch at h ⊢
  rw [size_put, eval_put_ne _ _ _ _ d1, eval_put_ne _ _ _ _ d2, eval_put_ne _ _ _ _ d3, eval_put_ne _ _ _ _ d4, eval_put_ne _ _ _ _ d5, eval_put_ne _ _ _ _ d6]
  exact h

/-- Other blocks turn. -/
theorem Ch.world {c : Cfg} {base N sz : Nat} {fl fm fb fa fs : Bool} {a : Act} {w w' : World} {r : Option Nat} (h : Ch c base N sz fl fm fb fa fs a w) (hg : w.grownBy w' r)
    (h1 : ∀ v, Boxed w c.Bx c.t v → some c.Bx ≠ r) (h2 : ∀ p, N ≤ p → Boxed w p c.e c.u → some p ≠ r) (h3 : ∀ v n xs, w.ownsRow base c.e 1 v n xs → v.ownBlock = none ∨ v.ownBlock ≠ r) : Ch c base N sz fl fm fb fa fs a w' := by
  obtain ⟨a0, a1, a2, a3, a4, a5, a6, a7, a8, a9, a10⟩ := h
  refine ⟨a0, a1, a2, a3, a4, a5, fun e => ?_, fun e => (a7 e).kept hg (h3 _ _ _ (a7 e)), fun e => (a8 e).kept hg (h3 _ _ _ (a8 e)), fun e => (a9 e).kept hg (h1 _ (a9 e)), fun e => (a10 e).kept hg (h1 _ (a10 e))⟩
  obtain ⟨p, q1, q2, q3⟩ := a6 e
  exact ⟨p, q1, q2, q3.kept hg (h2 p q2 q3)⟩
theorem Ch.alloc {c : Cfg} {base N sz : Nat} {fl fm fb fa fs : Bool} {a : Act} {w : World} (h : Ch c base N sz fl fm fb fa fs a w) (o : Obj) : Ch c base N sz fl fm fb fa fs a (w.alloc o) :=
  h.world (World.grownBy_alloc w o none) (fun _ _ => by simp) (fun _ _ _ => by simp) (fun v _ _ _ => by cases v.ownBlock <;> simp)

theorem rows_ne {w : World} {b1 b2 : Nat} {e1 e2 : TypeId} {v1 v2 : Value} {n1 n2 : Nat} {x1 x2 : List Value} (he : e1 ≠ e2) (h1 : w.ownsRow b1 e1 1 v1 n1 x1) (h2 : w.ownsRow b2 e2 1 v2 n2 x2) : v1.ownBlock = none ∨ v1.ownBlock ≠ v2.ownBlock := by
  rcases h1.2 with ⟨rfl, _⟩ | ⟨g, cap, cur, rfl, _, hg, _⟩
  · exact .inl rfl
  · refine .inr fun e => ?_
    rcases h2.2 with ⟨rfl, _⟩ | ⟨g', cap', cur', rfl, _, hg', _⟩
    · simp [Value.ownBlock] at e
    · obtain rfl : g = g' := by simpa [Value.ownBlock] using e
      rw [hg] at hg'; simp at hg'; exact he hg'.2

/-- The other one appends. -/
theorem Ch.other_app {c : Cfg} {base N sz : Nat} {fl fm fb fa fs : Bool} {a : Act} {w w' : World} {e2 : TypeId} {v2 : Value} {n2 : Nat} {x2 : List Value} (h : Ch c base N sz fl fm fb fa fs a w)
    (hr : w.ownsRow base e2 1 v2 n2 x2) (hg : w.grownBy w' v2.ownBlock) (ht : c.t ≠ e2) (he : c.e ≠ e2) : Ch c base N sz fl fm fb fa fs a w' :=
  h.world hg (fun _ hb => hb.not_row ht hr) (fun _ _ hb => hb.not_row he hr) (fun _ _ _ h1 => rows_ne he h1 hr)
/-- The other one is stored. -/
theorem Ch.other_store {c : Cfg} {base N sz : Nat} {fl fm fb fa fs : Bool} {a : Act} {w : World} {B2 : Nat} {t2 : TypeId} {u2 : Value} (v2 : Value) (h : Ch c base N sz fl fm fb fa fs a w)
    (hb2 : Boxed w B2 t2 u2) (hB : c.Bx ≠ B2) (he : t2 ≠ c.e) : Ch c base N sz fl fm fb fa fs a (w.setCell ⟨B2, 0, none⟩ v2) :=
  h.world (grownBy_setCell' w B2 v2) (fun _ _ e => hB (by simpa using e)) (fun p _ hb e => by
    obtain rfl : p = B2 := by simpa using e
    have := (show w.heap[p]? = _ from hb).symm.trans hb2
    simp at this; exact he this.2.symm) (fun _ _ _ h1 => .inr (hb2.not_row he h1).symm)

theorem step_load {P : Program} {Q : Exit → Act → World → Prop} {c : Cfg} {base N sz : Nat} {fm fb fa fs : Bool} {a : Act} {w : World} {K : Act → World → Prop} {oL oM oB oA oS : Oper} (ok : ChainOK P Q c base oL oM oB oA oS)
    (h : Ch c base N sz false fm fb fa fs a w) (hd : c.dl < sz ∧ c.dl ≠ c.s ∧ c.dl ≠ c.x ∧ c.dl ≠ c.dm ∧ c.dl ≠ c.db ∧ c.dl ≠ c.da) (hK : Ch c base N sz true fm fb fa fs (a.put (some c.dl) c.v) w → K (a.put (some c.dl) c.v) w) : oL.wp P a w K Q := by
  obtain ⟨⟨k1, k2, k3⟩, a1, a2, a3, a4, a5, a6, a7, a8, a9, a10⟩ := h
  obtain ⟨d0, d1, d2, d3, d4, d5⟩ := hd
  have hfa : fa = false := by cases fa; rfl; exact absurd (k2 rfl).1 (by simp)
  have hfs : fs = false := by cases fs; rfl; exact absurd (k1 rfl) (by simp [hfa])
  refine ok.load K a w c.v a2 (a9 hfs) (hK ?_)
  unfold Ch
  rw [size_put, eval_put_ne _ _ _ _ d1, eval_put_ne _ _ _ _ d2, eval_put_eq _ _ _ (by rw [a1]; exact d0), eval_put_ne _ _ _ _ d3, eval_put_ne _ _ _ _ d4, eval_put_ne _ _ _ _ d5]
  exact ⟨⟨k1, fun e => ⟨rfl, (k2 e).2⟩, k3⟩, a1, a2, a3, fun _ => rfl, a5, a6, a7, a8, a9, a10⟩

theorem step_move {P : Program} {Q : Exit → Act → World → Prop} {c : Cfg} {base N sz : Nat} {fl fb fa fs : Bool} {a : Act} {w : World} {K : Act → World → Prop} {oL oM oB oA oS : Oper} (ok : ChainOK P Q c base oL oM oB oA oS)
    (h : Ch c base N sz fl false fb fa fs a w) (hd : c.dm < sz ∧ c.dm ≠ c.s ∧ c.dm ≠ c.x ∧ c.dm ≠ c.dl ∧ c.dm ≠ c.db ∧ c.dm ≠ c.da) (hK : Ch c base N sz fl true fb fa fs (a.put (some c.dm) c.u) w → K (a.put (some c.dm) c.u) w) : oM.wp P a w K Q := by
  obtain ⟨⟨k1, k2, k3⟩, a1, a2, a3, a4, a5, a6, a7, a8, a9, a10⟩ := h
  obtain ⟨d0, d1, d2, d3, d4, d5⟩ := hd
  refine ok.move K a w a3 (hK ?_)
  unfold Ch
  rw [size_put, eval_put_ne _ _ _ _ d1, eval_put_ne _ _ _ _ d2, eval_put_ne _ _ _ _ d3, eval_put_eq _ _ _ (by rw [a1]; exact d0), eval_put_ne _ _ _ _ d4, eval_put_ne _ _ _ _ d5]
  exact ⟨⟨k1, k2, fun _ => rfl⟩, a1, a2, a3, a4, fun _ => rfl, a6, a7, a8, a9, a10⟩

theorem step_build {P : Program} {Q : Exit → Act → World → Prop} {c : Cfg} {base N sz : Nat} {fl fa fs : Bool} {a : Act} {w : World} {K : Act → World → Prop} {oL oM oB oA oS : Oper} (ok : ChainOK P Q c base oL oM oB oA oS)
    (h : Ch c base N sz fl true false fa fs a w) (hN : N ≤ w.heap.size) (hd : c.db < sz ∧ c.db ≠ c.s ∧ c.db ≠ c.x ∧ c.db ≠ c.dl ∧ c.db ≠ c.dm ∧ c.db ≠ c.da)
    (hK : Ch c base N sz fl true true fa fs (a.put (some c.db) (.slice (some ⟨w.heap.size, 0, none⟩) 1 1)) (w.alloc (.cells #[c.u] c.e)) → K (a.put (some c.db) (.slice (some ⟨w.heap.size, 0, none⟩) 1 1)) (w.alloc (.cells #[c.u] c.e))) : oB.wp P a w K Q := by
  have h' := h.alloc (.cells #[c.u] c.e)
  obtain ⟨⟨k1, k2, k3⟩, a1, a2, a3, a4, a5, a6, a7, a8, a9, a10⟩ := h'
  obtain ⟨d0, d1, d2, d3, d4, d5⟩ := hd
  refine ok.build K a w (a5 rfl) (hK ?_)
  unfold Ch
  rw [size_put, eval_put_ne _ _ _ _ d1, eval_put_ne _ _ _ _ d2, eval_put_ne _ _ _ _ d3, eval_put_ne _ _ _ _ d4, eval_put_eq _ _ _ (by rw [a1]; exact d0), eval_put_ne _ _ _ _ d5]
  exact ⟨⟨k1, fun e => ⟨(k2 e).1, rfl⟩, fun _ => rfl⟩, a1, a2, a3, a4, a5, fun _ => ⟨_, rfl, hN, Boxed.new w c.e c.u⟩, a7, a8, a9, a10⟩

theorem step_app {P : Program} {Q : Exit → Act → World → Prop} {c : Cfg} {base N sz : Nat} {fm fs : Bool} {a : Act} {w : World} {K : Act → World → Prop} {oL oM oB oA oS : Oper} (ok : ChainOK P Q c base oL oM oB oA oS)
    (h : Ch c base N sz true fm true false fs a w) (hbase : base ≤ w.heap.size) (hv : ∀ k, c.v.ownBlock = some k → k < N) (ht : c.t ≠ c.e) (hd : c.da < sz ∧ c.da ≠ c.s ∧ c.da ≠ c.x ∧ c.da ≠ c.dl ∧ c.da ≠ c.dm ∧ c.da ≠ c.db)
    (hK : ∀ v' w', w.ownsRow base c.e 1 c.v c.n c.xs → w.grownBy w' c.v.ownBlock → Ch c base N sz true fm true true fs (a.put (some c.da) v') w' → K (a.put (some c.da) v') w') : oA.wp P a w K Q := by
  obtain ⟨⟨k1, k2, k3⟩, a1, a2, a3, a4, a5, a6, a7, a8, a9, a10⟩ := h
  obtain ⟨d0, d1, d2, d3, d4, d5⟩ := hd
  obtain ⟨p, p1, p2, p3⟩ := a6 rfl
  have hr := a7 rfl
  have hfs : fs = false := by cases fs; rfl; exact absurd (k1 rfl) (by simp)
  refine ok.app K a w p (a4 rfl) p1 p3 hr hbase fun v' w' hown hg => hK v' w' hr hg ?_
  unfold Ch
  rw [size_put, eval_put_ne _ _ _ _ d1, eval_put_ne _ _ _ _ d2, eval_put_ne _ _ _ _ d3, eval_put_ne _ _ _ _ d4, eval_put_ne _ _ _ _ d5, eval_put_eq _ _ _ (by rw [a1]; exact d0)]
  refine ⟨⟨fun e => rfl, fun _ => ⟨rfl, rfl⟩, k3⟩, a1, a2, a3, a4, a5, fun _ => ⟨p, p1, p2, p3.kept hg fun e => ?_⟩, (fun e => by cases e), fun _ => hown, fun e => (a9 e).kept hg ((a9 e).not_row ht hr), fun e => by rw [hfs] at e; cases e⟩
  have := hv p e.symm
  omega

theorem step_store {P : Program} {Q : Exit → Act → World → Prop} {c : Cfg} {base N sz : Nat} {fl fm fb : Bool} {a : Act} {w : World} {K : Act → World → Prop} {oL oM oB oA oS : Oper} (ok : ChainOK P Q c base oL oM oB oA oS)
    (h : Ch c base N sz fl fm fb true false a w) (ht : c.t ≠ c.e)
    (hK : ∀ v', Boxed w c.Bx c.t c.v → Ch c base N sz fl fm fb true true a (w.setCell ⟨c.Bx, 0, none⟩ v') → K a (w.setCell ⟨c.Bx, 0, none⟩ v')) : oS.wp P a w K Q := by
  obtain ⟨⟨k1, k2, k3⟩, a1, a2, a3, a4, a5, a6, a7, a8, a9, a10⟩ := h
  have hr := a8 rfl
  have hb := a9 rfl
  obtain ⟨g, cap, hv⟩ := ownsRow_succ hr
  refine ok.store K a w c.v g cap a2 hv hb (hK _ hb ?_)
  have hg := grownBy_setCell' w c.Bx (.slice (some ⟨g, 0, none⟩) (c.n + 1) cap)
  refine ⟨⟨fun _ => rfl, k2, k3⟩, a1, a2, a3, a4, a5, fun e => ?_, (fun e => by cases e), fun _ => hr.kept hg (.inr (hb.not_row ht hr).symm), (fun e => by cases e), fun _ => ?_⟩
  · obtain ⟨p, p1, p2, p3⟩ := a6 e
    refine ⟨p, p1, p2, p3.kept hg fun e' => ?_⟩
    obtain rfl : p = c.Bx := by simpa using e'
    have := (show w.heap[c.Bx]? = _ from hb).symm.trans p3
    simp at this; exact ht this.2
  · rw [hv]; exact hb.set _

/-- Whether one waits for another. -/
def dep (o : Oper) (k : Nat) : Bool := o.after.any fun e => Region.binds .any e && e.on == k
theorem dep_spec {o : Oper} {k : Nat} {f : Nat → Bool} (h : dep o k = true) (hf : ∀ e ∈ o.after, Region.binds .any e = true → f e.on = true) : f k = true := by
  obtain ⟨i, hi, h2⟩ := Array.any_eq_true.1 h
  simp only [Bool.and_eq_true, beq_iff_eq] at h2
  rw [← h2.2]
  exact hf _ (Array.getElem_mem hi) h2.1
def acyc (ops : Array Oper) : Bool := (List.range ops.size).all fun i => match ops[i]? with | some o => o.after.all fun e => decide (e.on < i) | none => true
theorem acyc_spec {ops : Array Oper} (h : acyc ops = true) (i : Nat) (o : Oper) (ho : ops[i]? = some o) : ∀ e ∈ o.after, e.on < i := by
  intro e he
  have hi := (Array.getElem?_eq_some_iff.1 ho).1
  have := List.all_eq_true.1 h i (List.mem_range.2 hi)
  rw [ho] at this
  obtain ⟨j, hj, rfl⟩ := Array.getElem_of_mem he
  simpa using Array.all_eq_true.1 this j hj

theorem wpOp_of {P : Program} {ops : Array Oper} {Q : Exit → Act → World → Prop} {i : Nat} {o : Oper} {K : Act → World → Prop} {a : Act} {w : World} (ho : ops[i]? = some o) (hg : o.guard = none) (h : o.wp P a w K Q) : wpOp P ops Q i K a w := by
  unfold wpOp
  rw [ho]
  simp only
  rw [if_pos (by simp [Region.wanted, hg])]
  exact .inl h

theorem two_app {P : Program} {Q : Exit → Act → World → Prop} (c1 c2 : Cfg) (base N sz k : Nat) (o0 o1 o2 o3 o4 o5 o6 o7 o8 o9 : Oper)
    (hdep : (dep o2 1 && dep o3 0 && dep o3 2 && dep o6 5 && dep o7 4 && dep o7 6 && dep o8 3 && dep o9 7) = true) (hac : acyc #[o0, o1, o2, o3, o4, o5, o6, o7, o8, o9] = true)
    (hgd : o0.guard = none ∧ o1.guard = none ∧ o2.guard = none ∧ o3.guard = none ∧ o4.guard = none ∧ o5.guard = none ∧ o6.guard = none ∧ o7.guard = none ∧ o8.guard = none ∧ o9.guard = none)
    (ok1 : ChainOK P Q c1 base o0 o1 o2 o3 o8) (ok2 : ChainOK P Q c2 base o4 o5 o6 o7 o9)
    (hs1 : c1.dl = k ∧ c1.dm = k + 1 ∧ c1.db = k + 2 ∧ c1.da = k + 3 ∧ c1.s < k ∧ c1.x < k) (hs2 : c2.dl = k + 4 ∧ c2.dm = k + 5 ∧ c2.db = k + 6 ∧ c2.da = k + 7 ∧ c2.s < k ∧ c2.x < k) (hsz : k + 8 ≤ sz)
    (ht : c1.t ≠ c1.e ∧ c1.t ≠ c2.e ∧ c2.t ≠ c1.e ∧ c2.t ≠ c2.e ∧ c1.e ≠ c2.e) (hB : c1.Bx ≠ c2.Bx)
    (hv1 : ∀ k, c1.v.ownBlock = some k → k < N) (hv2 : ∀ k, c2.v.ownBlock = some k → k < N)
    (Kp : World → Prop) (hKp : ∀ w w' r, Kp w → w.grownBy w' r → (∀ g, r = some g → (base ≤ g ∨ g = c1.Bx ∨ g = c2.Bx) ∧ ∃ o : Obj, w.heap[g]? = some o ∧ o.isCells = true) → Kp w')
    (a : Act) (w : World) (hbN : base ≤ N) (hw : N ≤ w.heap.size) (h1 : Ch c1 base N sz false false false false false a w) (h2 : Ch c2 base N sz false false false false false a w) (hK : Kp w)
    (hend : ∀ a w, Ch c1 base N sz true true true true true a w → Ch c2 base N sz true true true true true a w → Kp w → Q .normal a w) :
    wpAny P .any #[o0, o1, o2, o3, o4, o5, o6, o7, o8, o9] Q 10 (Array.replicate 10 false) a w := by
  simp only [Bool.and_eq_true] at hdep
  obtain ⟨⟨⟨⟨⟨⟨⟨e21, e30⟩, e32⟩, e65⟩, e74⟩, e76⟩, e83⟩, e97⟩ := hdep
  obtain ⟨g0, g1, g2, g3, g4, g5, g6, g7, g8, g9⟩ := hgd
  obtain ⟨u1, u2, u3, u4, u5⟩ := ht
  have hrow : ∀ (w w' : World) (e : TypeId) (v : Value) (n : Nat) (xs : List Value), Kp w → w.ownsRow base e 1 v n xs → w.grownBy w' v.ownBlock → Kp w' := fun w w' e v n xs hK hr hg => hKp w w' _ hK hg fun g eg => by
    rcases hr.2 with ⟨rfl, _⟩ | ⟨g', cap, cur, rfl, hb, hh, _⟩
    · simp [Value.ownBlock] at eg
    · obtain rfl : g' = g := by simpa [Value.ownBlock] using eg
      exact ⟨.inl hb, _, hh, rfl⟩
  have hal : ∀ (w : World) (o : Obj), Kp w → Kp (w.alloc o) := fun w o hK => hKp w _ none hK (World.grownBy_alloc w o none) (fun g e => by cases e)
  refine any_inv rfl (acyc_spec hac) (fun f a w => Ch c1 base N sz (f 0) (f 1) (f 2) (f 3) (f 8) a w ∧ Ch c2 base N sz (f 4) (f 5) (f 6) (f 7) (f 9) a w ∧ Kp w ∧ N ≤ w.heap.size) ?_ ?_ 10 _ (fun _ => false) a w (by simp) (fun i hi => by simp [Array.getD, hi]) (by simp) ⟨h1, h2, hK, hw⟩
  · rintro f a w i o ⟨h1, h2, hK, hN⟩ ho hfi hd
    have hlt : i < 10 := (Array.getElem?_eq_some_iff.1 ho).1
    rcases ten i hlt with rfl | rfl | rfl | rfl | rfl | rfl | rfl | rfl | rfl | rfl
    · obtain rfl : o0 = o := by simpa using ho
      rw [hfi] at h1
      exact wpOp_of rfl g0 (step_load ok1 h1 (by omega) fun h => ⟨by simpa [setF] using h, by simpa [setF] using h2.put c1.dl _ (by omega), hK, hN⟩)
    · obtain rfl : o1 = o := by simpa using ho
      rw [hfi] at h1
      exact wpOp_of rfl g1 (step_move ok1 h1 (by omega) fun h => ⟨by simpa [setF] using h, by simpa [setF] using h2.put c1.dm _ (by omega), hK, hN⟩)
    · obtain rfl : o2 = o := by simpa using ho
      rw [hfi, dep_spec e21 hd] at h1
      exact wpOp_of rfl g2 (step_build ok1 h1 hN (by omega) fun h => ⟨by simpa [setF, dep_spec e21 hd] using h, by simpa [setF] using (h2.alloc _).put c1.db _ (by omega), hal _ _ hK, by simp; omega⟩)
    · obtain rfl : o3 = o := by simpa using ho
      rw [hfi, dep_spec e30 hd, dep_spec e32 hd] at h1
      exact wpOp_of rfl g3 (step_app ok1 h1 (by omega) hv1 u1 (by omega) fun v' w' hr hg h => ⟨by simpa [setF, dep_spec e30 hd, dep_spec e32 hd] using h, by simpa [setF] using (h2.other_app hr hg u3 u5.symm).put c1.da _ (by omega), hrow _ _ _ _ _ _ hK hr hg, Nat.le_trans hN hg.size⟩)
    · obtain rfl : o4 = o := by simpa using ho
      rw [hfi] at h2
      exact wpOp_of rfl g4 (step_load ok2 h2 (by omega) fun h => ⟨by simpa [setF] using h1.put c2.dl _ (by omega), by simpa [setF] using h, hK, hN⟩)
    · obtain rfl : o5 = o := by simpa using ho
      rw [hfi] at h2
      exact wpOp_of rfl g5 (step_move ok2 h2 (by omega) fun h => ⟨by simpa [setF] using h1.put c2.dm _ (by omega), by simpa [setF] using h, hK, hN⟩)
    · obtain rfl : o6 = o := by simpa using ho
      rw [hfi, dep_spec e65 hd] at h2
      exact wpOp_of rfl g6 (step_build ok2 h2 hN (by omega) fun h => ⟨by simpa [setF] using (h1.alloc _).put c2.db _ (by omega), by simpa [setF, dep_spec e65 hd] using h, hal _ _ hK, by simp; omega⟩)
    · obtain rfl : o7 = o := by simpa using ho
      rw [hfi, dep_spec e74 hd, dep_spec e76 hd] at h2
      exact wpOp_of rfl g7 (step_app ok2 h2 (by omega) hv2 u4 (by omega) fun v' w' hr hg h => ⟨by simpa [setF] using (h1.other_app hr hg u2 u5).put c2.da _ (by omega), by simpa [setF, dep_spec e74 hd, dep_spec e76 hd] using h, hrow _ _ _ _ _ _ hK hr hg, Nat.le_trans hN hg.size⟩)
    · obtain rfl : o8 = o := by simpa using ho
      rw [hfi, dep_spec e83 hd] at h1
      exact wpOp_of rfl g8 (step_store ok1 h1 u1 fun v' hb h => ⟨by simpa [setF, dep_spec e83 hd] using h, by simpa [setF] using h2.other_store v' hb hB.symm u2, hKp _ _ _ hK (grownBy_setCell' _ _ _) (fun g e => by cases e; exact ⟨.inr (.inl rfl), _, hb, rfl⟩), by simpa using hN⟩)
    · obtain rfl : o9 = o := by simpa using ho
      rw [hfi, dep_spec e97 hd] at h2
      exact wpOp_of rfl g9 (step_store ok2 h2 u4 fun v' hb h => ⟨by simpa [setF] using h1.other_store v' hb hB u3, by simpa [setF, dep_spec e97 hd] using h, hKp _ _ _ hK (grownBy_setCell' _ _ _) (fun g e => by cases e; exact ⟨.inr (.inr rfl), _, hb, rfl⟩), by simpa using hN⟩)
  · rintro f a w ⟨h1, h2, hK, _⟩ hall
    rw [hall 0 (by omega), hall 1 (by omega), hall 2 (by omega), hall 3 (by omega), hall 8 (by omega)] at h1
    rw [hall 4 (by omega), hall 5 (by omega), hall 6 (by omega), hall 7 (by omega), hall 9 (by omega)] at h2
    exact hend a w h1 h2 hK

end Go.Proofs.Ytacjkcmiiajabaa
