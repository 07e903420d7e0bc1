/- A drawn region whose last operation waits for all others (a store): a class of worlds is held up to it, and may be left by it. Of no program. -/
import Derived.Deep.RegionHeld
import Derived.Tactics
namespace Go.Proofs.Ytimnmdeiiahakaa


section
variable {P : Program} {md : Region.Mode} {S : World → Prop} {Q : Exit → Act → World → Prop}
/-- Without guards; each waits for elder ones alone; the last one waits for all. -/
def lastB (md : Region.Mode) (ops : Array Oper) (n : Nat) : Bool :=
  decide (ops.size = n + 1) && ops.all (fun o => o.guard.isNone) && ((List.range (n + 1)).all fun i => ((ops[i]?).map fun o => o.after.all fun e => decide (e.on < i)).getD true) &&
  ((List.range n).all fun i => (List.range (n + 1)).any fun j => decide (i < j) && ((ops[j]?).map fun o => o.after.any fun e => Region.binds md e && decide (e.on = i)).getD false)
theorem lastB_spec {ops : Array Oper} {n : Nat} (h : lastB md ops n = true) : ops.size = n + 1 ∧ (∀ (i : Nat) (o : Oper), ops[i]? = some o → o.guard = none ∧ ∀ e ∈ o.after, e.on < i) ∧ (∀ i, i < n → ∃ j o, i < j ∧ j ≤ n ∧ ops[j]? = some o ∧ ∃ e ∈ o.after, Region.binds md e = true ∧ e.on = i) := by
  unfold lastB at h
  simp only [Bool.and_eq_true, decide_eq_true_iff] at h
  obtain ⟨⟨⟨h1, h2⟩, h3⟩, h4⟩ := h
  refine ⟨h1, fun i o ho => ⟨?_, fun e he => ?_⟩, fun i hi => ?_⟩
  · have := Array.all_eq_true_iff_forall_mem.1 h2 o (Array.mem_of_getElem? ho)
    simpa using this
  · have hi : i < n + 1 := by have := (Array.getElem?_eq_some_iff.1 ho).1; omega
    have := List.all_eq_true.1 h3 i (List.mem_range.2 hi)
    rw [ho] at this
    have := Array.all_eq_true_iff_forall_mem.1 this e he
    exact of_decide_eq_true this
  · have := List.all_eq_true.1 h4 i (List.mem_range.2 hi)
    obtain ⟨j, hj, hb⟩ := List.any_eq_true.1 this
    rw [Bool.and_eq_true] at hb
    have hjn := List.mem_range.1 hj
    have hoj : ops[j]? = some ops[j] := Array.getElem?_eq_getElem (by omega)
    have hb2 := hb.2
    have hb0 := hb.1
    rw [hoj] at hb2
    obtain ⟨e, he, hb⟩ := Array.any_eq_true'.1 hb2
    rw [Bool.and_eq_true] at hb
    exact ⟨j, _, of_decide_eq_true hb0, by omega, hoj, e, he, hb.1, of_decide_eq_true hb.2⟩
theorem pop_at {α : Type} (ops : Array α) (n i : Nat) (h : ops.size = n + 1) (hi : i < n) : ops.pop[i]? = ops[i]? := by
  rw [Array.getElem?_pop, if_pos (by omega)]
theorem set_push (l : Array Bool) (i : Nat) (h : i < l.size) : (l.push false).setIfInBounds i true = (l.setIfInBounds i true).push false := by
  apply Array.ext_getElem?
  intro j
  simp only [Array.getElem?_setIfInBounds, Array.getElem?_push, Array.size_setIfInBounds, Array.size_push]
  by_cases e : i = j
  · subst e; simp [h, Nat.ne_of_lt h]; omega
  · simp [e]
theorem push_at (l : Array Bool) (i : Nat) (d : Bool) (h : i < l.size) : (l.push false).getD i d = l.getD i d := by
  simp [Array.getD_eq_getD_getElem?, Array.getElem?_push_lt h, Array.getElem?_eq_getElem h]
/-- What is left to be shown ahead of the last one. -/
def ahead (P : Program) (ops : Array Oper) (n : Nat) (Q : Exit → Act → World → Prop) : Exit → Act → World → Prop := fun c a w => match c with
  | .normal => wpOp P ops Q n (fun a' w' => Q .normal a' w') a w
  | c => Q c a w
theorem op_same {ops : Array Oper} {n i : Nat} {o : Oper} (hi : ops[i]? = some o) (hp : ops.pop[i]? = some o) (hg : o.guard = none) {K : Act → World → Prop} {a : Act} {w : World} (h : wpOp P ops.pop (ahead P ops n Q) i K a w) : wpOp P ops Q i K a w := by
  have hw : ∀ f, Region.wanted o f = true := fun f => by simp [Region.wanted, hg]
  unfold wpOp at h ⊢
  rw [hp] at h
  rw [hi]
  simp only [hw, if_true] at h ⊢
  exact h
theorem any_done {ops : Array Oper} {listed : Array Bool} {a : Act} {w : World} (hr : Region.ready md ops listed = []) (h : Q .normal a w) : ∀ f, wpAny P md ops Q f listed a w
  | 0 => ⟨hr, h⟩
  | _ + 1 => ⟨fun _ => h, by rw [hr]; simp⟩
theorem some_ready {ops : Array Oper} {listed : Array Bool} (hs : listed.size = ops.size) (hb : ∀ (i : Nat) (o : Oper), ops[i]? = some o → ∀ e ∈ o.after, e.on < i) : ∀ (i : Nat), i < ops.size → listed.getD i true = false → Region.ready md ops listed ≠ [] := by
  intro i
  induction i using Nat.strongRecOn with
  | _ i ih =>
    intro hi hl he
    have hoi : ops[i]? = some ops[i] := Array.getElem?_eq_getElem hi
    by_cases hall : ∀ e ∈ (ops[i]).after, Region.binds md e = true → listed.getD e.on false = true
    · have : i ∈ Region.ready md ops listed := mem_ready.2 ⟨hl, _, hoi, hall⟩
      rw [he] at this; cases this
    · simp only [Classical.not_forall] at hall
      obtain ⟨e, hem, _, hne⟩ := hall
      have hlt := hb i _ hoi e hem
      refine ih e.on hlt (by omega) ?_ he
      have hsz : e.on < listed.size := by omega
      simp [Array.getD_eq_getD_getElem?, Array.getElem?_eq_getElem hsz] at hne ⊢
      exact hne
/-- What is listed stands behind what it waits for. -/
def Closed (md : Region.Mode) (ops : Array Oper) (listed : Array Bool) : Prop := ∀ j o, ops[j]? = some o → listed.getD j false = true → ∀ e ∈ o.after, Region.binds md e = true → listed.getD e.on false = true
theorem Closed.set {ops : Array Oper} {listed : Array Bool} {i : Nat} {o : Oper} (h : Closed md ops listed) (ho : ops[i]? = some o) (hi : ∀ e ∈ o.after, Region.binds md e = true → listed.getD e.on false = true) : Closed md ops (listed.setIfInBounds i true) := by
  have keep : ∀ k, listed.getD k false = true → (listed.setIfInBounds i true).getD k false = true := fun k hk => by
    have hks : k < listed.size := by
      rcases Nat.lt_or_ge k listed.size with q | q
      · exact q
      · simp [Array.getD_eq_getD_getElem?, Array.getElem?_eq_none q] at hk
    by_cases e : i = k
    · subst e; simp [Array.getD_eq_getD_getElem?, hks]
    · simp [Array.getD_eq_getD_getElem?, e] at hk ⊢; exact hk
  intro j o' ho' hl e he hb
  by_cases hij : i = j
  · subst hij
    cases Option.some.inj (ho.symm.trans ho')
    exact keep _ (hi e he hb)
  · refine keep _ (h j o' ho' ?_ e he hb)
    simp [Array.getD_eq_getD_getElem?, hij] at hl ⊢; exact hl
/-- One step of it. -/
theorem held_step {ops : Array Oper} {n fuel : Nat} (hB : lastB md ops n = true) (listed : Array Bool) (a : Act) (w : World) (hs : listed.size = n) (hcl : Closed md ops listed)
    (hA : Region.ready md ops.pop listed = [] → ahead P ops n Q .normal a w)
    (hI : ∀ i ∈ Region.ready md ops.pop listed, wpOp P ops Q i (wpAny P md ops Q fuel ((listed.push false).setIfInBounds i true)) a w) : wpAny P md ops Q (fuel + 1) (listed.push false) a w := by
  obtain ⟨hn, hall, hlast⟩ := lastB_spec hB
  have hpn : (listed.push false).getD n true = false := by rw [← hs]; simp [Array.getD_eq_getD_getElem?]
  refine ⟨fun h0 => absurd h0 (some_ready (by rw [Array.size_push]; omega) (fun i o ho => (hall i o ho).2) n (by omega) hpn), fun i hi => ?_⟩
  obtain ⟨h1, o, ho, h2⟩ := mem_ready.1 hi
  have hlt := (Array.getElem?_eq_some_iff.1 ho).1
  by_cases hin : i < n
  · refine hI i (mem_ready.2 ⟨?_, o, ?_, fun e he hb => ?_⟩)
    · rw [← push_at listed i true (by omega)]; exact h1
    · rw [pop_at ops n i hn hin]; exact ho
    · have := (hall i o ho).2 e he
      rw [← push_at listed e.on false (by omega)]; exact h2 e he hb
  · obtain rfl : i = n := by omega
    have hdone : ∀ (d j : Nat), i - j = d → j < i → listed.getD j false = true := fun d => by
      induction d using Nat.strongRecOn with
      | _ d ih =>
        intro j hd hj
        obtain ⟨j', o', hlt', hle', ho', e, he, hb, hon⟩ := hlast j hj
        by_cases hq : j' = i
        · subst hq
          cases Option.some.inj (ho.symm.trans ho')
          have := h2 e he hb
          rw [hon, push_at listed j false (by omega)] at this
          exact this
        · have := hcl j' o' ho' (ih (i - j') (by omega) j' rfl (by omega)) e he hb
          rw [hon] at this; exact this
    replace hdone : ∀ j, j < i → listed.getD j false = true := fun j hj => hdone _ j rfl hj
    have hr : Region.ready md ops.pop listed = [] := by
      rw [List.eq_nil_iff_forall_not_mem]
      intro j hj
      obtain ⟨q1, o', ho', _⟩ := mem_ready.1 hj
      have hjn : j < i := by
        have := (Array.getElem?_eq_some_iff.1 ho').1
        rw [Array.size_pop] at this
        omega
      have q2 := hdone j hjn
      have hsz : j < listed.size := by omega
      simp [Array.getD_eq_getD_getElem?, Array.getElem?_eq_getElem hsz] at q1 q2
      rw [q1] at q2; cases q2
    refine wpOp_mono (fun a' w' h' => any_done ?_ h' _) (hA hr)
    rw [List.eq_nil_iff_forall_not_mem]
    intro j hj
    obtain ⟨q1, o', ho', _⟩ := mem_ready.1 hj
    have hjl := (Array.getElem?_eq_some_iff.1 ho').1
    by_cases hji : j = i
    · subst hji
      simp [Array.getD_eq_getD_getElem?, hs] at q1
    · have q2 := hdone j (by omega)
      have hsz : j < listed.size := by omega
      simp [Array.getD_eq_getD_getElem?, Ne.symm hji, Array.getElem?_push_lt hsz] at q1
      simp [Array.getD_eq_getD_getElem?, Array.getElem?_eq_getElem hsz] at q2
      rw [q1] at q2; cases q2
theorem held_last {ops : Array Oper} {n : Nat} (hB : lastB md ops n = true) : ∀ (fuel : Nat) (listed : Array Bool) (a : Act) (w : World), listed.size = n → Closed md ops listed →
    wpAnyH P md ops.pop (ahead P ops n Q) S fuel listed a w → wpAny P md ops Q (fuel + 1) (listed.push false) a w := by
  obtain ⟨hn, hall, hlast⟩ := lastB_spec hB
  intro fuel
  induction fuel with
  | zero =>
    intro listed a w hs hcl h
    exact held_step hB listed a w hs hcl (fun _ => h.2) (fun i hi => by rw [h.1] at hi; cases hi)
  | succ f ih =>
    intro listed a w hs hcl h
    refine held_step hB listed a w hs hcl h.1 (fun i hi => ?_)
    obtain ⟨_, o0, ho0, hready⟩ := mem_ready.1 hi
    have hin : i < n := by
      have ho := ho0
      have := (Array.getElem?_eq_some_iff.1 ho).1
      rw [Array.size_pop] at this
      omega
    have hp : ops.pop[i]? = ops[i]? := pop_at ops n i hn hin
    have ho : ops[i]? = some ops[i] := Array.getElem?_eq_getElem (by omega)
    refine op_same ho (hp.trans ho) (hall i _ ho).1 (wpOp_mono (fun a' w' h' => ?_) (h.2 i hi))
    have := ih (listed.setIfInBounds i true) a' w' (by rw [Array.size_setIfInBounds, hs]) (hcl.set (hp.symm.trans ho0) hready) h'.2
    rw [set_push listed i (by omega)]
    exact this
/-- **THE BEGINNING**: a drawn region whose last operation (number n) waits for all others: the class S is held up to it. -/
theorem wp_region_held_last {ops : Array Oper} {id n : Nat} {a : Act} {w : World} (hm : P.follows .mixedOrders = true) (hB : lastB .any ops n = true)
    (h : wpAnyH P .any ops.pop (ahead P ops n Q) S n (Array.replicate n false) a w.drew) : (Code.region id ops true).wp P Q a w := by
  have hn := (lastB_spec hB).1
  have := held_last hB n (Array.replicate n false) a w.drew (by simp) (fun j o _ hl => by
    rcases Nat.lt_or_ge j n with q | q <;> simp [Array.getD_eq_getD_getElem?, q] at hl) h
  refine wp_region_any hm ?_
  rw [hn, Array.replicate_succ]
  exact this
end
end Go.Proofs.Ytimnmdeiiahakaa
