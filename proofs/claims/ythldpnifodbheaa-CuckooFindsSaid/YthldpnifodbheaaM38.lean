/- Texts that the walks of this seat lean on, put together. -/
import Derived.Test.YthldpnifodbheaaTk
import Derived.Test.YthldpnifodbheaaTl
import Derived.Test.YthldpnifodbheaaM36
namespace Go.Proofs.Ythldpnifodbheaa
open Go.RowKit Go.Lib
def Ins (cf : Cf) (p : Pl) : Prop := p.1 < cf.st.toNat ∧ p.2 < cf.sz.toNat
def numP (cf : Cf) (p : Pl) : Nat := p.1 * cf.sz.toNat + p.2
def lkC (cf : Cf) (c : Nat → Option Se) (p : Pl) : Option Se := lkN cf.st.toNat cf.sz.toNat c p
theorem lkC_in {cf : Cf} {c : Nat → Option Se} {p : Pl} (h : Ins cf p) : lkC cf c p = c (numP cf p) := lkP_in c h.1 h.2
theorem ptN_in {cf : Cf} {c : Nat → Option Se} {p : Pl} (h : Ins cf p) (v : Option Se) : ptN cf.st.toNat cf.sz.toNat c p v = putC c (numP cf p) v := ptP_in c h.1 h.2 v
theorem numP_inj {cf : Cf} {p q : Pl} (h : Ins cf p) (g : Ins cf q) (e : numP cf p = numP cf q) : p = q := by
  obtain ⟨a, b⟩ := p
  obtain ⟨x, y⟩ := q
  have h1 := plc_div cf.sz.toNat a b h.2
  have h2 := plc_mod cf.sz.toNat a b h.2
  have h3 := plc_div cf.sz.toNat x y g.2
  have h4 := plc_mod cf.sz.toNat x y g.2
  change a * _ + b = x * _ + y at e
  rw [e] at h1 h2
  rw [h1] at h3
  rw [h2] at h4
  rw [h3, h4]
theorem numP_lt {cf : Cf} {p : Pl} (h : Ins cf p) : numP cf p < cf.st.toNat * cf.sz.toNat := plc_lt _ _ _ h.2 _ h.1
abbrev gtS (S : List Stp) (i : Nat) : Stp := S.getD i ((0, 0), 0)
theorem addS_get (fr : Int) (L : List Pl) (S : List Stp) (i : Nat) (hi : i < (addS fr S L).length) : (i < S.length ∧ gtS (addS fr S L) i = gtS S i) ∨ (S.length ≤ i ∧ (gtS (addS fr S L) i).2 = fr ∧ (gtS (addS fr S L) i).1 ∈ L) := by
  induction L generalizing S with
  | nil => exact .inl ⟨hi, rfl⟩
  | cons p L ih =>
    rcases ih (add1 fr S p) hi with ⟨h1, h2⟩ | ⟨h1, h2, h3⟩
    · show _ ∨ (_ ∧ (gtS (addS fr (add1 fr S p) L) i).2 = fr ∧ (gtS (addS fr (add1 fr S p) L) i).1 ∈ _)
      show (_ ∧ gtS (addS fr (add1 fr S p) L) i = _) ∨ _
      rw [h2]
      unfold add1 at h1 ⊢
      by_cases hs : inS S p = true
      · rw [if_pos hs] at h1 ⊢
        exact .inl ⟨h1, rfl⟩
      · rw [if_neg hs] at h1 ⊢
        rw [List.length_append, List.length_singleton] at h1
        by_cases e : i < S.length
        · refine .inl ⟨e, ?_⟩
          unfold gtS
          rw [List.getD_eq_getElem?_getD, List.getD_eq_getElem?_getD, List.getElem?_append_left e]
        · obtain rfl : i = S.length := by omega
          have : gtS (S ++ [(p, fr)]) S.length = (p, fr) := by
            unfold gtS
            rw [List.getD_eq_getElem?_getD, List.getElem?_append_right (Nat.le_refl _), Nat.sub_self]; rfl
          rw [this]
          exact .inr ⟨Nat.le_refl _, rfl, List.mem_cons_self ..⟩
    · have := add1_long fr S p
      exact .inr ⟨by omega, h2, List.mem_cons_of_mem _ h3⟩
def ndS (S : List Stp) : Prop := ∀ i j, i < S.length → j < S.length → (gtS S i).1 = (gtS S j).1 → i = j
theorem inS_get (S : List Stp) (p : Pl) (i : Nat) (hi : i < S.length) (h : (gtS S i).1 = p) : inS S p = true := by
  unfold inS
  rw [List.any_eq_true]
  unfold gtS at h
  rw [List.getD_eq_getElem?_getD, List.getElem?_eq_getElem hi] at h
  exact ⟨_, List.getElem_mem hi, decide_eq_true h⟩
theorem add1_nd (fr : Int) (S : List Stp) (p : Pl) (h : ndS S) : ndS (add1 fr S p) := by
  unfold add1
  by_cases hs : inS S p = true
  · rw [if_pos hs]; exact h
  · rw [if_neg hs]
    have g1 : ∀ i, i < S.length → gtS (S ++ [(p, fr)]) i = gtS S i := fun i e => by
      unfold gtS
      rw [List.getD_eq_getElem?_getD, List.getD_eq_getElem?_getD, List.getElem?_append_left e]
    have g2 : gtS (S ++ [(p, fr)]) S.length = (p, fr) := by
      unfold gtS
      rw [List.getD_eq_getElem?_getD, List.getElem?_append_right (Nat.le_refl _), Nat.sub_self]; rfl
    intro i j hi hj e
    rw [List.length_append, List.length_singleton] at hi hj
    by_cases e1 : i < S.length <;> by_cases e2 : j < S.length
    · rw [g1 i e1, g1 j e2] at e; exact h i j e1 e2 e
    · obtain rfl : j = S.length := by omega
      rw [g1 i e1, g2] at e
      exact absurd (inS_get S p i e1 e) hs
    · obtain rfl : i = S.length := by omega
      rw [g1 j e2, g2] at e
      exact absurd (inS_get S p j e2 e.symm) hs
    · omega
theorem addS_nd (fr : Int) (L : List Pl) (S : List Stp) (h : ndS S) : ndS (addS fr S L) := by
  induction L generalizing S with
  | nil => exact h
  | cons p L ih => exact ih _ (add1_nd fr S p h)
def cpS (cf : Cf) (c : Nat → Option Se) (k : Fl) (S : List Stp) : Prop :=
  ∀ i, i < S.length → ((gtS S i).2 = -1 ∧ (gtS S i).1 ∈ plL cf k) ∨ ∃ (j : Nat) (s : Se), (gtS S i).2 = (j : Int) ∧ j < i ∧ lkC cf c (gtS S j).1 = some s ∧ (gtS S i).1 ∈ plL cf s.k
structure SInv (cf : Cf) (c : Nat → Option Se) (k : Fl) (S : List Stp) : Prop where
  b : inB cf S
  f : frS S
  n : ndS S
  p : cpS cf c k S
theorem SInv.start (cf : Cf) (hok : okC cf = true) (c : Nat → Option Se) (k : Fl) : SInv cf c k (addS (-1) [] (plL cf k)) :=
  ⟨addS_inB cf _ _ [] (fun _ h => by cases h) (plL_inB cf hok k), addS_fr _ _ [] (fun i h => by simp at h) (by omega) (by simp), addS_nd _ _ [] (fun i _ h => by simp at h), fun i hi => by
    rcases addS_get (-1) (plL cf k) [] i hi with ⟨h, _⟩ | ⟨_, h1, h2⟩
    · simp at h
    · exact .inl ⟨h1, h2⟩⟩
theorem SInv.on {cf : Cf} (hok : okC cf = true) {c : Nat → Option Se} {k : Fl} {S : List Stp} (h : SInv cf c k S) {n : Nat} (hn : n < S.length) {s : Se} (hs : lkC cf c (gtS S n).1 = some s) : SInv cf c k (addS (n : Int) S (plL cf s.k)) := by
  have hl := addS_long (n : Int) (plL cf s.k) S
  refine ⟨addS_inB cf _ _ _ h.b (plL_inB cf hok s.k), addS_fr _ _ _ h.f (by omega) (by omega), addS_nd _ _ _ h.n, fun i hi => ?_⟩
  have g : ∀ j, j < S.length → gtS (addS (n : Int) S (plL cf s.k)) j = gtS S j := fun j hj => by
    rcases addS_get (n : Int) (plL cf s.k) S j (by omega) with ⟨_, e⟩ | ⟨e, _⟩
    · exact e
    · omega
  rcases addS_get (n : Int) (plL cf s.k) S i hi with ⟨h1, e⟩ | ⟨h1, h2, h3⟩
  · rw [e]
    rcases h.p i h1 with q | ⟨j, s', q1, q2, q3, q4⟩
    · exact .inl q
    · exact .inr ⟨j, s', q1, q2, by rw [g j (by omega)]; exact q3, q4⟩
  · exact .inr ⟨n, s, h2, by omega, by rw [g n hn]; exact hs, h3⟩
theorem srN_inv (cf : Cf) (hok : okC cf = true) (c : Nat → Option Se) (k : Fl) (R : List Pl) : ∀ (f : Nat) (S : List Stp) (n : Nat), SInv cf c k S → srN cf c f S n = some R →
    ∃ S' n', SInv cf c k S' ∧ n' < S'.length ∧ lkC cf c (gtS S' n').1 = none ∧ R = (bkL S' n').reverse := by
  intro f
  induction f with
  | zero => intro S n _ h; cases h
  | succ f ih =>
    intro S n hI h
    unfold srN at h
    by_cases hn : n < S.length
    · rw [if_pos hn] at h
      cases hl : lkN cf.st.toNat cf.sz.toNat c (S.getD n ((0, 0), 0)).1 with
      | none => rw [hl] at h; cases h; exact ⟨S, n, hI, hn, hl, rfl⟩
      | some s => rw [hl] at h; exact ih _ _ (hI.on hok hn hl) h
    · rw [if_neg hn] at h; cases h
structure BK (cf : Cf) (c : Nat → Option Se) (k : Fl) (S : List Stp) (z : Nat) (B : List Pl) : Prop where
  ne : 0 < B.length
  hd : B.getD 0 (0, 0) = (gtS S z).1
  ch : ∀ i, i + 1 < B.length → ∃ s, lkC cf c (B.getD (i + 1) (0, 0)) = some s ∧ B.getD i (0, 0) ∈ plL cf s.k
  la : B.getD (B.length - 1) (0, 0) ∈ plL cf k
  fr : ∀ i, i < B.length → ∃ j, j ≤ z ∧ B.getD i (0, 0) = (gtS S j).1
  nd : ∀ i j, i < B.length → j < B.length → B.getD i (0, 0) = B.getD j (0, 0) → i = j
theorem bk_ok {cf : Cf} {c : Nat → Option Se} {k : Fl} {S : List Stp} (h : SInv cf c k S) : ∀ (f z : Nat), z < S.length → z < f → BK cf c k S z (bkG S f (z : Int)) := by
  intro f
  induction f with
  | zero => intro z _ h; omega
  | succ f ih =>
    intro z hz hf
    rw [bkG_step S (f + 1) z hf, Nat.add_sub_cancel]
    rcases h.p z hz with ⟨q1, q2⟩ | ⟨j, s, q1, q2, q3, q4⟩
    · change (S.getD z ((0, 0), 0)).2 = -1 at q1
      rw [q1, bkG_neg]
      refine ⟨by simp, rfl, fun i hi => by simp at hi, q2, fun i hi => ?_, fun i j hi hj _ => by simp at hi hj; omega⟩
      obtain rfl : i = 0 := by simpa using hi
      exact ⟨z, Nat.le_refl _, rfl⟩
    · change (S.getD z ((0, 0), 0)).2 = _ at q1
      rw [q1]
      have B := ih j (by omega) (by omega)
      generalize bkG S f (j : Int) = L at *
      refine ⟨by simp, rfl, fun i hi => ?_, ?_, fun i hi => ?_, fun i i' hi hi' e => ?_⟩
      · cases i with
        | zero =>
          refine ⟨s, ?_, q4⟩
          rw [List.getD_cons_succ, B.hd]
          exact q3
        | succ i =>
          rw [List.length_cons] at hi
          obtain ⟨s', e1, e2⟩ := B.ch i (by omega)
          exact ⟨s', by rw [List.getD_cons_succ]; exact e1, by rw [List.getD_cons_succ]; exact e2⟩
      · have := B.la
        have hne := B.ne
        rw [List.length_cons, show L.length + 1 - 1 = (L.length - 1) + 1 by omega, List.getD_cons_succ]
        exact this
      · cases i with
        | zero => exact ⟨z, Nat.le_refl _, rfl⟩
        | succ i =>
          rw [List.length_cons] at hi
          obtain ⟨j', e1, e2⟩ := B.fr i (by omega)
          exact ⟨j', by omega, by rw [List.getD_cons_succ]; exact e2⟩
      · rw [List.length_cons] at hi hi'
        have key : ∀ i, i < L.length → (gtS S z).1 ≠ L.getD i (0, 0) := fun i hi e => by
          obtain ⟨j', e1, e2⟩ := B.fr i hi
          have := h.n z j' hz (by omega) (e.trans e2)
          omega
        cases i with
        | zero =>
          cases i' with
          | zero => rfl
          | succ i' => rw [List.getD_cons_succ] at e; exact absurd e (key i' (by omega))
        | succ i =>
          cases i' with
          | zero => rw [List.getD_cons_succ] at e; exact absurd e.symm (key i (by omega))
          | succ i' =>
            rw [List.getD_cons_succ, List.getD_cons_succ] at e
            rw [B.nd i i' (by omega) (by omega) e]
structure Way (cf : Cf) (c : Nat → Option Se) (k : Fl) (R : List Pl) : Prop where
  ne : 0 < R.length
  hd : gtP R 0 ∈ plL cf k
  ch : ∀ i, i + 1 < R.length → ∃ s, lkC cf c (gtP R i) = some s ∧ gtP R (i + 1) ∈ plL cf s.k
  la : lkC cf c (gtP R (R.length - 1)) = none
  nd : ∀ i j, i < R.length → j < R.length → gtP R i = gtP R j → i = j
  ins : ∀ i, i < R.length → Ins cf (gtP R i)
theorem way_ok (cf : Cf) (hok : okC cf = true) (c : Nat → Option Se) (k : Fl) (R : List Pl) (h : insW cf c k = some R) : Way cf c k R := by
  obtain ⟨S, n, hI, hn, hl, rfl⟩ := srN_inv cf hok c k R _ _ _ (SInv.start cf hok c k) h
  have B : BK cf c k S n (bkL S n) := bk_ok hI _ n hn hn
  generalize bkL S n = L at *
  have hr : ∀ i, i < L.length → gtP L.reverse i = L.getD (L.length - 1 - i) (0, 0) := fun i hi => rev_getD L i hi
  have hne := B.ne
  have hlen : L.reverse.length = L.length := List.length_reverse
  refine ⟨by omega, ?_, fun i hi => ?_, ?_, fun i j hi hj e => ?_, fun i hi => ?_⟩
  · rw [hr 0 hne]; exact B.la
  · rw [hlen] at hi
    rw [hr i (by omega), hr (i + 1) hi]
    obtain ⟨s, e1, e2⟩ := B.ch (L.length - 1 - (i + 1)) (by omega)
    rw [show L.length - 1 - (i + 1) + 1 = L.length - 1 - i by omega] at e1
    exact ⟨s, e1, e2⟩
  · rw [hlen, hr _ (by omega), show L.length - 1 - (L.length - 1) = 0 by omega, B.hd]
    exact hl
  · rw [hlen] at hi hj
    rw [hr i hi, hr j hj] at e
    have := B.nd _ _ (by omega) (by omega) e
    omega
  · rw [hlen] at hi
    rw [hr i hi]
    obtain ⟨j, e1, e2⟩ := B.fr (L.length - 1 - i) (by omega)
    rw [e2]
    exact inB_get hI.b (by omega)
end Go.Proofs.Ythldpnifodbheaa
namespace Go.Proofs.Ythldpnifodbheaa
open Go.RowKit Go.Lib
section
variable {cf : Cf} {c : Nat → Option Se} {k : Fl} {R : List Pl}
theorem shc_succ (h : Way cf c k R) (m : Nat) (hm : m + 1 < R.length) : shc cf c R.length (gtP R) (m + 1) = putC (shc cf c R.length (gtP R) m) (numP cf (gtP R (R.length - 1 - m))) (c (numP cf (gtP R (R.length - 2 - m)))) := by
  show ptN _ _ _ _ _ = _
  rw [ptN_in (h.ins _ (by omega))]
  have : lkN cf.st.toNat cf.sz.toNat c (gtP R (R.length - 2 - m)) = c (numP cf (gtP R (R.length - 2 - m))) := lkC_in (h.ins _ (by omega))
  rw [this]
theorem shc_off (h : Way cf c k R) : ∀ (m : Nat), m < R.length → ∀ q, (∀ i, i < m → q ≠ numP cf (gtP R (R.length - 1 - i))) → shc cf c R.length (gtP R) m q = c q := by
  intro m
  induction m with
  | zero => intro _ q _; rfl
  | succ m ih =>
    intro hm q hq
    rw [shc_succ h m hm, putC_off _ _ _ _ (hq m (by omega))]
    exact ih (by omega) q fun i hi => hq i (by omega)
theorem way_num (h : Way cf c k R) {i j : Nat} (hi : i < R.length) (hj : j < R.length) (e : numP cf (gtP R i) = numP cf (gtP R j)) : i = j :=
  h.nd i j hi hj (numP_inj (h.ins i hi) (h.ins j hj) e)
theorem shc_at (h : Way cf c k R) : ∀ (m : Nat), m < R.length → ∀ i, i < m → shc cf c R.length (gtP R) m (numP cf (gtP R (R.length - 1 - i))) = c (numP cf (gtP R (R.length - 2 - i))) := by
  intro m
  induction m with
  | zero => intro _ i hi; omega
  | succ m ih =>
    intro hm i hi
    rw [shc_succ h m hm]
    by_cases e : i = m
    · subst e; exact putC_at _ _ _
    · rw [putC_off _ _ _ _ (fun q => by have := way_num h (by omega) (by omega) q; omega)]
      exact ih (by omega) i (by omega)
theorem way_sh (h : Way cf c k R) : shOk cf c R := by
  intro m hm
  obtain ⟨s, e, -⟩ := h.ch (R.length - 2 - m) (by omega)
  refine ⟨s, e, ?_⟩
  show lkC cf _ _ = _
  rw [lkC_in (h.ins _ (by omega)), shc_off h m (by omega) _ (fun i hi q => by have := way_num h (by omega) (by omega) q; omega)]
  exact (lkC_in (c := c) (h.ins _ (by omega))).symm.trans e
def nwC (cf : Cf) (c : Nat → Option Se) (R : List Pl) (s : Se) : Nat → Option Se := ptN cf.st.toNat cf.sz.toNat (shc cf c R.length (gtP R) (R.length - 1)) (gtP R 0) (some s)
theorem nwC_put (h : Way cf c k R) (s : Se) : nwC cf c R s = putC (shc cf c R.length (gtP R) (R.length - 1)) (numP cf (gtP R 0)) (some s) := ptN_in (h.ins 0 h.ne) _
theorem nwC_hd (h : Way cf c k R) (s : Se) : nwC cf c R s (numP cf (gtP R 0)) = some s := by rw [nwC_put h]; exact putC_at _ _ _
theorem nwC_on (h : Way cf c k R) (s : Se) (i : Nat) (hi : i + 1 < R.length) : nwC cf c R s (numP cf (gtP R (i + 1))) = c (numP cf (gtP R i)) := by
  rw [nwC_put h, putC_off _ _ _ _ (fun q => by have := way_num h (by omega) h.ne q; omega)]
  have := shc_at h (R.length - 1) (by have := h.ne; omega) (R.length - 2 - i) (by omega)
  rw [show R.length - 1 - (R.length - 2 - i) = i + 1 by omega, show R.length - 2 - (R.length - 2 - i) = i by omega] at this
  exact this
theorem nwC_off (h : Way cf c k R) (s : Se) (q : Nat) (hq : ∀ i, i < R.length → q ≠ numP cf (gtP R i)) : nwC cf c R s q = c q := by
  rw [nwC_put h, putC_off _ _ _ _ (hq 0 h.ne)]
  exact shc_off h _ (by have := h.ne; omega) q fun i hi => hq _ (by omega)
def memC (cf : Cf) (c : Nat → Option Se) (s : Se) : Prop := ∃ q, q < cf.st.toNat * cf.sz.toNat ∧ c q = some s
theorem nwC_cases (h : Way cf c k R) (s : Se) (q : Nat) (x : Se) (hx : nwC cf c R s q = some x) :
    (q = numP cf (gtP R 0) ∧ x = s) ∨ (∃ i, i + 1 < R.length ∧ q = numP cf (gtP R (i + 1)) ∧ c (numP cf (gtP R i)) = some x) ∨ ((∀ i, i < R.length → q ≠ numP cf (gtP R i)) ∧ c q = some x) := by
  by_cases he : ∃ i, i < R.length ∧ q = numP cf (gtP R i)
  · obtain ⟨i, hi, rfl⟩ := he
    cases i with
    | zero => rw [nwC_hd h] at hx; cases hx; exact .inl ⟨rfl, rfl⟩
    | succ i => rw [nwC_on h s i hi] at hx; exact .inr (.inl ⟨i, hi, rfl, hx⟩)
  · have hq : ∀ i, i < R.length → q ≠ numP cf (gtP R i) := fun i hi e => he ⟨i, hi, e⟩
    rw [nwC_off h s q hq] at hx
    exact .inr (.inr ⟨hq, hx⟩)
theorem nwC_mem (h : Way cf c k R) (s x : Se) : memC cf (nwC cf c R s) x ↔ x = s ∨ memC cf c x := by
  constructor
  · rintro ⟨q, hq, hx⟩
    rcases nwC_cases h s q x hx with ⟨-, e⟩ | ⟨i, hi, -, e⟩ | ⟨-, e⟩
    · exact .inl e
    · exact .inr ⟨_, numP_lt (h.ins i (by omega)), e⟩
    · exact .inr ⟨q, hq, e⟩
  · rintro (rfl | ⟨q, hq, hx⟩)
    · exact ⟨_, numP_lt (h.ins 0 h.ne), nwC_hd h x⟩
    · by_cases he : ∃ i, i < R.length ∧ q = numP cf (gtP R i)
      · obtain ⟨i, hi, rfl⟩ := he
        by_cases hl : i + 1 < R.length
        · exact ⟨_, numP_lt (h.ins (i + 1) hl), (nwC_on h s i hl).trans hx⟩
        · have := h.la
          rw [lkC_in (h.ins _ (by omega)), show R.length - 1 = i by omega, hx] at this
          cases this
      · exact ⟨q, hq, (nwC_off h s q fun i hi e => he ⟨i, hi, e⟩).trans hx⟩
def cntC (cf : Cf) (c : Nat → Option Se) : Nat := (itF c 0 (cf.st.toNat * cf.sz.toNat)).length
theorem cnt_new {cf : Cf} {c : Nat → Option Se} {q : Nat} (hq : q < cf.st.toNat * cf.sz.toNat) (s : Se) (h : c q = none) : cntC cf (putC c q (some s)) = cntC cf c + 1 := by
  have hl := itF_len c 0 q
  unfold cntC
  rw [itF_put c _ q (some s) hq, itF_at c _ q hq, h]
  simp
  omega
theorem cnt_same {cf : Cf} {c : Nat → Option Se} {q : Nat} (hq : q < cf.st.toNat * cf.sz.toNat) (s x : Se) (h : c q = some x) : cntC cf (putC c q (some s)) = cntC cf c := by
  unfold cntC
  rw [itF_put c _ q (some s) hq, itF_at c _ q hq, h]
  simp
theorem cnt_out {cf : Cf} {c : Nat → Option Se} {q : Nat} (hq : q < cf.st.toNat * cf.sz.toNat) (x : Se) (h : c q = some x) : cntC cf (putC c q none) + 1 = cntC cf c := by
  unfold cntC
  rw [itF_put c _ q none hq, itF_at c _ q hq, h]
  simp
  omega
theorem shc_cnt (h : Way cf c k R) : ∀ m, m < R.length → 0 < m → cntC cf (shc cf c R.length (gtP R) m) = cntC cf c + 1 := by
  intro m
  induction m with
  | zero => intro _ h; omega
  | succ m ih =>
    intro hm _
    obtain ⟨s, e, -⟩ := h.ch (R.length - 2 - m) (by omega)
    rw [lkC_in (h.ins _ (by omega))] at e
    rw [shc_succ h m hm, e]
    by_cases h0 : m = 0
    · subst h0
      have := h.la
      rw [lkC_in (h.ins _ (by omega))] at this
      exact cnt_new (numP_lt (h.ins _ (by omega))) s this
    · obtain ⟨s', e', -⟩ := h.ch (R.length - 1 - m) (by omega)
      rw [lkC_in (h.ins _ (by omega)), ← shc_off h m (by omega) _ (fun i hi q => by have := way_num h (by omega) (by omega) q; omega)] at e'
      rw [cnt_same (numP_lt (h.ins _ (by omega))) s s' e']
      exact ih (by omega) (by omega)
theorem nwC_cnt (h : Way cf c k R) (s : Se) : cntC cf (nwC cf c R s) = cntC cf c + 1 := by
  rw [nwC_put h]
  have hne := h.ne
  by_cases h1 : R.length = 1
  · rw [h1]
    show cntC cf (putC c _ _) = _
    have := h.la
    rw [h1, lkC_in (h.ins _ (by omega))] at this
    exact cnt_new (numP_lt (h.ins 0 hne)) s this
  · obtain ⟨s', e', -⟩ := h.ch 0 (by omega)
    rw [lkC_in (h.ins _ (by omega)), ← shc_off h (R.length - 1) (by omega) _ (fun i hi q => by have := way_num h (by omega) (by omega) q; omega)] at e'
    rw [cnt_same (numP_lt (h.ins 0 hne)) s s' e']
    exact shc_cnt h _ (by omega) (by omega)
end
structure TI (cf : Cf) (c : Nat → Option Se) : Prop where
  pl : ∀ q s, q < cf.st.toNat * cf.sz.toNat → c q = some s → ∃ p, p ∈ plL cf s.k ∧ q = numP cf p
  one : ∀ q q' s s', q < cf.st.toNat * cf.sz.toNat → q' < cf.st.toNat * cf.sz.toNat → c q = some s → c q' = some s' → s.k = s'.k → q = q'
  dg : ∀ q s, q < cf.st.toNat * cf.sz.toNat → c q = some s → s.d = dgN cf s.k
  tw : ∀ q q' s s', q < cf.st.toNat * cf.sz.toNat → q' < cf.st.toNat * cf.sz.toNat → c q = some s → c q' = some s' → s.k ≠ s'.k → s.d = s'.d → s.v = s'.v → (plL cf s.k).any (mtF (plL cf s'.k)) = false
theorem TI.none (cf : Cf) : TI cf (fun _ => none) := ⟨fun _ _ _ h => (by cases h), fun _ _ _ _ _ _ h => (by cases h), fun _ _ _ h => (by cases h), fun _ _ _ _ _ _ h => (by cases h)⟩
theorem TI.mk' {cf : Cf} {c : Nat → Option Se} (pl : ∀ q s, q < cf.st.toNat * cf.sz.toNat → c q = some s → ∃ p, p ∈ plL cf s.k ∧ q = numP cf p)
    (one : ∀ q q' s s', q < cf.st.toNat * cf.sz.toNat → q' < cf.st.toNat * cf.sz.toNat → c q = some s → c q' = some s' → s.k = s'.k → q = q') (P : Se → Prop) (hP : ∀ s, memC cf c s → P s) (dg : ∀ s, P s → s.d = dgN cf s.k)
    (tw : ∀ s s', P s → P s' → s.k ≠ s'.k → s.d = s'.d → s.v = s'.v → (plL cf s.k).any (mtF (plL cf s'.k)) = false) : TI cf c :=
  ⟨pl, one, fun q s hq h => dg s (hP s ⟨q, hq, h⟩), fun q q' s s' hq hq' h h' => tw s s' (hP s ⟨q, hq, h⟩) (hP s' ⟨q', hq', h'⟩)⟩
theorem TI.mem_dg {cf : Cf} {c : Nat → Option Se} (h : TI cf c) {s : Se} (hs : memC cf c s) : s.d = dgN cf s.k := by
  obtain ⟨q, hq, e⟩ := hs; exact h.dg q s hq e
theorem TI.mem_one {cf : Cf} {c : Nat → Option Se} (h : TI cf c) {s s' : Se} (hs : memC cf c s) (hs' : memC cf c s') (e : s.k = s'.k) : s = s' := by
  obtain ⟨q, hq, e1⟩ := hs
  obtain ⟨q', hq', e2⟩ := hs'
  obtain rfl := h.one q q' s s' hq hq' e1 e2 e
  rw [e1] at e2
  exact Option.some.inj e2
theorem nwC_TI {cf : Cf} {c : Nat → Option Se} {k : Fl} {R : List Pl} (h : Way cf c k R) (hT : TI cf c) (s : Se) (hk : s.k = k) (hd : s.d = dgN cf s.k) (hno : ∀ x, memC cf c x → x.k ≠ k)
    (htw : ∀ x, memC cf c x → s.d = x.d → s.v = x.v → (plL cf s.k).any (mtF (plL cf x.k)) = false ∧ (plL cf x.k).any (mtF (plL cf s.k)) = false) : TI cf (nwC cf c R s) := by
  refine TI.mk' (fun q x hq hx => ?_) (fun q q' x x' hq hq' hx hx' e => ?_) (fun x => x = s ∨ memC cf c x) (fun x hx => (nwC_mem h s x).1 hx) (fun x hx => ?_) (fun x x' hx hx' e1 e2 e3 => ?_)
  · rcases nwC_cases h s q x hx with ⟨e, rfl⟩ | ⟨i, hi, e, hc⟩ | ⟨-, hc⟩
    · exact ⟨_, by rw [hk]; exact h.hd, e⟩
    · obtain ⟨y, e1, e2⟩ := h.ch i hi
      rw [lkC_in (h.ins i (by omega)), hc] at e1
      cases e1
      exact ⟨_, e2, e⟩
    · exact hT.pl q x hq hc
  · have old : ∀ q x, q < cf.st.toNat * cf.sz.toNat → nwC cf c R s q = some x → x.k ≠ k → ∃ q0, q0 < cf.st.toNat * cf.sz.toNat ∧ c q0 = some x ∧ ((∃ i, i + 1 < R.length ∧ q = numP cf (gtP R (i + 1)) ∧ q0 = numP cf (gtP R i)) ∨ ((∀ i, i < R.length → q ≠ numP cf (gtP R i)) ∧ q0 = q)) := by
      intro q x hq hx hne
      rcases nwC_cases h s q x hx with ⟨e, rfl⟩ | ⟨i, hi, e, hc⟩ | ⟨hn, hc⟩
      · exact absurd hk hne
      · exact ⟨_, numP_lt (h.ins i (by omega)), hc, .inl ⟨i, hi, e, rfl⟩⟩
      · exact ⟨q, hq, hc, .inr ⟨hn, rfl⟩⟩
    have new : ∀ q x, q < cf.st.toNat * cf.sz.toNat → nwC cf c R s q = some x → x.k = k → q = numP cf (gtP R 0) := by
      intro q x hq hx he
      rcases nwC_cases h s q x hx with ⟨e, rfl⟩ | ⟨i, hi, e, hc⟩ | ⟨hn, hc⟩
      · exact e
      · exact absurd he (hno x ⟨_, numP_lt (h.ins i (by omega)), hc⟩)
      · exact absurd he (hno x ⟨q, hq, hc⟩)
    by_cases hxk : x.k = k
    · rw [new q x hq hx hxk, new q' x' hq' hx' (e ▸ hxk)]
    · obtain ⟨q0, a1, a2, a3⟩ := old q x hq hx hxk
      obtain ⟨q1, b1, b2, b3⟩ := old q' x' hq' hx' (e ▸ hxk)
      obtain rfl := hT.one q0 q1 x x' a1 b1 a2 b2 e
      rcases a3 with ⟨i, hi, e1, e2⟩ | ⟨n1, e1⟩ <;> rcases b3 with ⟨j, hj, f1, f2⟩ | ⟨n2, f1⟩
      · have := way_num h (by omega) (by omega) (e2.symm.trans f2)
        subst this
        rw [e1, f1]
      · exact absurd (f1.symm.trans e2) (n2 i (by omega))
      · exact absurd (e1.symm.trans f2) (n1 j (by omega))
      · rw [← e1, ← f1]
  · rcases hx with rfl | hx
    · exact hd
    · exact hT.mem_dg hx
  · rcases hx with rfl | hx <;> rcases hx' with rfl | hx'
    · exact absurd rfl e1
    · exact (htw x' hx' e2 e3).1
    · exact (htw x hx e2.symm e3.symm).2
    · obtain ⟨q, hq, a⟩ := hx
      obtain ⟨q', hq', b⟩ := hx'
      exact hT.tw q q' x x' hq hq' a b e1 e2 e3
end Go.Proofs.Ythldpnifodbheaa
