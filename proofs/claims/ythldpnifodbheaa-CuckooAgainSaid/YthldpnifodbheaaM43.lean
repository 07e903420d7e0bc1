/- Texts that the walks of this seat lean on, put together. -/
import Derived.Test.YthldpnifodbheaaTk
import Derived.Test.YthldpnifodbheaaM14
import Derived.Test.YthldpnifodbheaaM30
import Derived.Test.YthldpnifodbheaaM41
namespace Go.Proofs.Ythldpnifodbheaa
open Go.RowKit Go.Lib
theorem fst1_some (f : Pl → Option Se) (q : Se → Bool) : ∀ (L : List Pl) (o : Pl × Se), fst1 f q L = some o → o.1 ∈ L ∧ f o.1 = some o.2 ∧ q o.2 = true
  | [], o, h => by cases h
  | p :: L, o, h => by
    cases hp : f p with
    | none =>
      rw [show p :: L = [] ++ [p] ++ L by simp, fst1_append f q _ L (fst1_one_none f q [] p rfl hp)] at h
      obtain ⟨a, b, c⟩ := fst1_some f q L o h
      exact ⟨List.mem_cons_of_mem _ a, b, c⟩
    | some s =>
      cases hq : q s with
      | true =>
        rw [fst1_hd f q p L s hp hq] at h
        cases h
        exact ⟨List.mem_cons_self .., hp, hq⟩
      | false =>
        rw [fst1_hd_no f q p L s hp hq] at h
        obtain ⟨a, b, c⟩ := fst1_some f q L o h
        exact ⟨List.mem_cons_of_mem _ a, b, c⟩
theorem fst1_none_iff (f : Pl → Option Se) (q : Se → Bool) : ∀ (L : List Pl), fst1 f q L = none ↔ ∀ p ∈ L, ∀ s, f p = some s → q s = false
  | [] => ⟨fun _ _ h => (by cases h), fun _ => rfl⟩
  | p :: L => by
    have ih := fst1_none_iff f q L
    cases hp : f p with
    | none =>
      rw [show p :: L = [] ++ [p] ++ L by simp, fst1_append f q _ L (fst1_one_none f q [] p rfl hp), ih]
      constructor
      · intro h x hx s hs
        simp at hx
        rcases hx with rfl | hx
        · rw [hp] at hs; cases hs
        · exact h x hx s hs
      · intro h x hx s hs
        exact h x (by simp; exact .inr hx) s hs
    | some t =>
      cases hq : q t with
      | true =>
        rw [fst1_hd f q p L t hp hq]
        constructor
        · intro h; cases h
        · intro h
          have := h p (List.mem_cons_self ..) t hp
          rw [hq] at this; cases this
      | false =>
        rw [fst1_hd_no f q p L t hp hq, ih]
        constructor
        · intro h x hx s hs
          rw [List.mem_cons] at hx
          rcases hx with rfl | hx
          · rw [hp] at hs; cases hs; exact hq
          · exact h x hx s hs
        · intro h x hx s hs
          exact h x (List.mem_cons_of_mem _ hx) s hs
def meet (cf : Cf) (k l : Fl) : Prop := vK k = true ∧ vK l = true ∧ ∃ a, a < cf.st.toNat ∧ plN cf k a = plN cf l a
theorem meet_comm {cf : Cf} {k l : Fl} (h : meet cf k l) : meet cf l k := by
  obtain ⟨h1, h2, a, h3, h4⟩ := h
  exact ⟨h2, h1, a, h3, h4.symm⟩
theorem any_meet (cf : Cf) (k l : Fl) : (plL cf k).any (mtF (plL cf l)) = true ↔ meet cf k l := by
  rw [List.any_eq_true]
  constructor
  · rintro ⟨p, hp, hm⟩
    cases hk : vK k with
    | false => rw [plL_no hk] at hp; cases hp
    | true =>
      cases hl : vK l with
      | false => rw [plL_no hl] at hm; unfold mtF at hm; simp at hm
      | true =>
        rw [plL_yes hk, List.mem_map] at hp
        obtain ⟨a, ha, rfl⟩ := hp
        have ha := List.mem_range.1 ha
        unfold mtF at hm
        simp only [Bool.and_eq_true, decide_eq_true_iff] at hm
        have h2 := hm.2
        rw [plL_get cf l hl a ha] at h2
        exact ⟨hk, hl, a, ha, (congrArg Prod.snd h2).symm⟩
  · rintro ⟨hk, hl, a, ha, e⟩
    refine ⟨(a, plN cf k a), ?_, ?_⟩
    · rw [plL_yes hk, List.mem_map]; exact ⟨a, List.mem_range.2 ha, rfl⟩
    · unfold mtF
      simp only [Bool.and_eq_true, decide_eq_true_iff]
      refine ⟨by rw [plL_len cf l hl]; exact ha, ?_⟩
      rw [plL_get cf l hl a ha, e]
theorem any_meet_no (cf : Cf) (k l : Fl) (h : ¬ meet cf k l) : (plL cf k).any (mtF (plL cf l)) = false := by
  cases e : (plL cf k).any (mtF (plL cf l)) with
  | false => rfl
  | true => exact absurd ((any_meet cf k l).1 e) h
theorem mem_plL {cf : Cf} {k : Fl} {p : Pl} (h : p ∈ plL cf k) : vK k = true ∧ p.1 < cf.st.toNat ∧ p.2 = plN cf k p.1 := by
  cases hk : vK k with
  | false => rw [plL_no hk] at h; cases h
  | true =>
    rw [plL_yes hk, List.mem_map] at h
    obtain ⟨a, ha, rfl⟩ := h
    exact ⟨rfl, List.mem_range.1 ha, rfl⟩
section
variable {cf : Cf} {c : Nat → Option Se} (hok : okC cf = true) (hT : TI cf c)
include hok hT
theorem seat_meet {k : Fl} {p : Pl} (hp : p ∈ plL cf k) {s : Se} (hs : lkC cf c p = some s) : meet cf k s.k ∧ memC cf c s := by
  have hin := plL_inB cf hok k p hp
  rw [lkC_in hin] at hs
  have hlt := numP_lt (cf := cf) (p := p) hin
  obtain ⟨p', hp', e⟩ := hT.pl _ s hlt hs
  have := numP_inj hin (plL_inB cf hok s.k p' hp') e
  subst this
  obtain ⟨a1, a2, a3⟩ := mem_plL hp
  obtain ⟨b1, b2, b3⟩ := mem_plL hp'
  exact ⟨⟨a1, b1, p.1, a2, a3.symm.trans b3⟩, _, hlt, hs⟩
theorem mem_at {s : Se} (hs : memC cf c s) : ∃ p, p ∈ plL cf s.k ∧ lkC cf c p = some s := by
  obtain ⟨q, hq, e⟩ := hs
  obtain ⟨p, hp, rfl⟩ := hT.pl q s hq e
  exact ⟨p, hp, by rw [lkC_in (plL_inB cf hok s.k p hp)]; exact e⟩
theorem find_mem {s : Se} (hs : memC cf c s) : ∃ p, dlO cf c s.k = some (p, s) := by
  obtain ⟨p, hp, hl⟩ := mem_at hok hT hs
  cases h : dlO cf c s.k with
  | none =>
    have := (fst1_none_iff _ _ _).1 h p hp s hl
    simp at this
  | some o =>
    obtain ⟨h1, h2, h3⟩ := fst1_some _ _ _ o h
    obtain ⟨-, hm⟩ := seat_meet hok hT h1 h2
    have := hT.mem_one hm hs (of_decide_eq_true h3)
    exact ⟨o.1, by rw [← this]⟩
theorem find_none {k : Fl} (h : ∀ s, memC cf c s → s.k ≠ k) : dlO cf c k = none := by
  refine (fst1_none_iff _ _ _).2 fun p hp s hs => decide_eq_false ?_
  exact h s (seat_meet hok hT hp hs).2
theorem find_some {k : Fl} {o : Pl × Se} (h : dlO cf c k = some o) : o.2.k = k ∧ memC cf c o.2 := by
  obtain ⟨h1, h2, h3⟩ := fst1_some _ _ _ o h
  exact ⟨of_decide_eq_true h3, (seat_meet hok hT h1 h2).2⟩
theorem look_mem {s : Se} (hs : memC cf c s) : ∃ p, fst1 (lkN cf.st.toNat cf.sz.toNat c) (fun x => hitsB x (dgN cf s.k) s.v) (plL cf s.k) = some (p, s) ∧ lkN cf.st.toNat cf.sz.toNat c p = some s := by
  obtain ⟨p, hp, hl⟩ := mem_at hok hT hs
  have hd := hT.mem_dg hs
  cases h : fst1 (lkN cf.st.toNat cf.sz.toNat c) (fun x => hitsB x (dgN cf s.k) s.v) (plL cf s.k) with
  | none =>
    have := (fst1_none_iff _ _ _).1 h p hp s hl
    unfold hitsB at this
    rw [decide_eq_true hd, decide_eq_true rfl] at this
    cases this
  | some o =>
    obtain ⟨h1, h2, h3⟩ := fst1_some _ _ _ o h
    obtain ⟨hm, hmem⟩ := seat_meet hok hT h1 h2
    unfold hitsB at h3
    simp only [Bool.and_eq_true, decide_eq_true_iff] at h3
    by_cases e : o.2.k = s.k
    · have := hT.mem_one hmem hs e
      rw [this] at h2
      exact ⟨o.1, by rw [← this], h2⟩
    · obtain ⟨q, hq, eq⟩ := hs
      obtain ⟨q', hq', eq'⟩ := hmem
      have := hT.tw q' q o.2 s hq' hq eq' eq e (h3.1.trans hd.symm) h3.2
      rw [(any_meet cf _ _).2 (meet_comm hm)] at this
      cases this
end
theorem twB_iff (cf : Cf) (k : Fl) (v : Int) (s : Se) : twB cf k v s = true ↔ s.k ≠ k ∧ s.d = dgN cf k ∧ s.v = v ∧ meet cf k s.k := by
  unfold twB hitsB
  rw [Bool.and_eq_true, Bool.and_eq_true, any_meet]
  simp [and_assoc]
theorem twF_none_iff (cf : Cf) (k : Fl) (v : Int) (l : List (Nat × Se)) : twF cf k v l = none ↔ ∀ x ∈ l, twB cf k v x.2 = false := by
  have key : ∀ (l : List (Nat × Se)) (b : Option Fl), l.foldl (fun b x => twS cf k v b x.2) b = none ↔ b = none ∧ ∀ x ∈ l, twB cf k v x.2 = false := by
    intro l
    induction l with
    | nil => intro b; simp
    | cons y l ih =>
      intro b
      rw [List.foldl_cons, ih]
      unfold twS
      cases hb : twB cf k v y.2 with
      | false => simp [hb]
      | true =>
        cases b with
        | none => simp [twP, hb]
        | some z =>
          simp only [Bool.true_and]
          split <;> simp
  exact (key l none).trans (by simp)
theorem itF_memC (cf : Cf) (c : Nat → Option Se) (s : Se) : memC cf c s ↔ ∃ x ∈ itF c 0 (cf.st.toNat * cf.sz.toNat), x.2 = s := by
  constructor
  · rintro ⟨q, hq, e⟩
    exact ⟨(q, s), (itF_mem c 0 _ _).2 ⟨Nat.zero_le _, by simpa using hq, e⟩, rfl⟩
  · rintro ⟨x, hx, rfl⟩
    obtain ⟨-, h2, h3⟩ := (itF_mem c 0 _ _).1 hx
    exact ⟨x.1, by simpa using h2, h3⟩
end Go.Proofs.Ythldpnifodbheaa
namespace Go.Proofs.Ythldpnifodbheaa
open Go.RowKit Go.Lib
section
variable {cf : Cf} {c : Nat → Option Se} (hok : okC cf = true) (hT : TI cf c)
include hok hT
theorem rfE_zero {k : Fl} {v r : Int} (h : rfE cf c k v r = 0) : vK k = true ∧ 0 ≤ v ∧ 0 ≤ r ∧ (∀ x, memC cf c x → x.k ≠ k) ∧ ∀ x, memC cf c x → x.d = dgN cf k → x.v = v → ¬ meet cf k x.k := by
  unfold rfE at h
  split at h
  · cases h
  · rename_i h1
    split at h
    · cases h
    · rename_i h2
      split at h
      · cases h
      · rename_i h3
        have hv : vK k = true := by cases e : vK k with | true => rfl | false => exact absurd (.inl e) h1
        have hno : ∀ x, memC cf c x → x.k ≠ k := fun x hx e => by
          obtain ⟨p, hp⟩ := find_mem hok hT hx
          rw [e] at hp
          have : (fst1 (lkN cf.st.toNat cf.sz.toNat c) (fun s => decide (s.k = k)) (plL cf k)) = some (p, x) := hp
          rw [this] at h2
          exact h2 rfl
        refine ⟨hv, by omega, by omega, hno, fun x hx hd hvv hm => ?_⟩
        have htw : twF cf k v (itF c 0 (cf.st.toNat * cf.sz.toNat)) = none := by
          cases e : twF cf k v (itF c 0 (cf.st.toNat * cf.sz.toNat)) with
          | none => rfl
          | some w => rw [e] at h3; exact absurd rfl h3
        obtain ⟨y, hy, rfl⟩ := (itF_memC cf c x).1 hx
        have := (twF_none_iff cf k v _).1 htw y hy
        rw [(twB_iff cf k v y.2).2 ⟨hno _ hx, hd, hvv, hm⟩] at this
        cases this
theorem rfE_free {k : Fl} {v r : Int} (hv : vK k = true) (h1 : 0 ≤ v) (h2 : 0 ≤ r) (hno : ∀ x, memC cf c x → x.k ≠ k) (htw : ∀ x, memC cf c x → x.d = dgN cf k → x.v = v → ¬ meet cf k x.k) : rfE cf c k v r = 0 := by
  refine rfE_ok cf c k v r hv h1 h2 (find_none hok hT hno) ((twF_none_iff cf k v _).2 fun y hy => ?_)
  have hm := (itF_memC cf c y.2).2 ⟨y, hy, rfl⟩
  cases e : twB cf k v y.2 with
  | false => rfl
  | true =>
    obtain ⟨-, a, b, d⟩ := (twB_iff cf k v y.2).1 e
    exact absurd d (htw _ hm a b)
theorem ins_spec {k : Fl} (hk : k.Fit) {v r : Int} (h : rfE cf c k v r = 0) {R : List Pl} (hw : insW cf c k = some R) :
    insE cf c k v r = 0 ∧ TI cf (insC cf c k hk v r) ∧ (∀ x, memC cf (insC cf c k hk v r) x ↔ x = nwS cf k hk v r ∨ memC cf c x) ∧ cntC cf (insC cf c k hk v r) = cntC cf c + 1 := by
  obtain ⟨-, h1, h2, hno, htw⟩ := rfE_zero hok hT h
  obtain ⟨i1, i2, -⟩ := ins_yes cf c k hk v r R h hw
  have W := way_ok cf hok c k R hw
  rw [i2]
  refine ⟨i1, ?_, fun x => nwC_mem W (nwS cf k hk v r) x, nwC_cnt W (nwS cf k hk v r)⟩
  refine nwC_TI W hT (nwS cf k hk v r) rfl rfl hno fun x hx hd hv => ?_
  have hm : ¬ meet cf k x.k := htw x hx hd.symm hv.symm
  exact ⟨any_meet_no cf _ _ hm, any_meet_no cf _ _ fun q => hm (meet_comm q)⟩
theorem del_spec {s : Se} (hs : memC cf c s) : TI cf (dlC cf c s.k) ∧ (∀ x, memC cf (dlC cf c s.k) x ↔ memC cf c x ∧ x ≠ s) ∧ cntC cf (dlC cf c s.k) + 1 = cntC cf c ∧ ∃ p, p ∈ plL cf s.k ∧ dlO cf c s.k = some (p, s) ∧ lkC cf (dlC cf c s.k) p = none := by
  obtain ⟨p, hp⟩ := find_mem hok hT hs
  obtain ⟨h1, h2, -⟩ := fst1_some _ _ _ _ hp
  have hin := plL_inB cf hok s.k p h1
  have hlt : numP cf p < cf.st.toNat * cf.sz.toNat := numP_lt (cf := cf) (p := p) hin
  have hl : c (numP cf p) = some s := by
    have : lkC cf c p = some s := h2
    rwa [lkC_in hin] at this
  have e : dlC cf c s.k = putC c (numP cf p) none := by
    unfold dlC
    rw [hp]
    exact ptN_in (cf := cf) (p := p) hin none
  rw [e]
  have old : ∀ q x, putC c (numP cf p) none q = some x → c q = some x ∧ q ≠ numP cf p := fun q x h => by
    by_cases he : q = numP cf p
    · rw [he, putC_at] at h; cases h
    · rw [putC_off _ _ _ _ he] at h; exact ⟨h, he⟩
  refine ⟨⟨fun q x hq h => hT.pl q x hq (old q x h).1, fun q q' x x' hq hq' h h' => hT.one q q' x x' hq hq' (old q x h).1 (old q' x' h').1, fun q x hq h => hT.dg q x hq (old q x h).1, fun q q' x x' hq hq' h h' => hT.tw q q' x x' hq hq' (old q x h).1 (old q' x' h').1⟩, fun x => ?_, cnt_out hlt s hl, p, h1, hp, by rw [lkC_in hin, putC_at]⟩
  constructor
  · rintro ⟨q, hq, h⟩
    obtain ⟨a, b⟩ := old q x h
    refine ⟨⟨q, hq, a⟩, fun e => b ?_⟩
    subst e
    exact hT.one q _ x x hq hlt a hl rfl
  · rintro ⟨⟨q, hq, h⟩, hne⟩
    refine ⟨q, hq, ?_⟩
    rw [putC_off _ _ _ _ (fun e => hne (by rw [e, hl] at h; exact (Option.some.inj h).symm))]
    exact h
end
end Go.Proofs.Ythldpnifodbheaa
namespace Go.Proofs.Ythldpnifodbheaa
open Go.RowKit Go.Lib
theorem addS_old (fr : Int) (L : List Pl) (S : List Stp) (i : Nat) (hi : i < S.length) : gtS (addS fr S L) i = gtS S i := by
  have := addS_long fr L S
  rcases addS_get fr L S i (by omega) with ⟨_, e⟩ | ⟨e, _⟩
  · exact e
  · omega
theorem srN_finds (cf : Cf) (c : Nat → Option Se) : ∀ (f : Nat) (S : List Stp) (n i : Nat), n ≤ i → i < S.length → i < n + f → lkC cf c (gtS S i).1 = none → ∃ R, srN cf c f S n = some R := by
  intro f
  induction f with
  | zero => intro S n i h1 _ h2; omega
  | succ f ih =>
    intro S n i h1 h2 h3 h4
    cases hl : lkN cf.st.toNat cf.sz.toNat c (S.getD n ((0, 0), 0)).1 with
    | none => exact ⟨_, srN_free cf c (f + 1) n S (by omega) (by omega) hl⟩
    | some s =>
      rw [srN_on cf c (f + 1) n S s (by omega) (by omega) hl, Nat.add_sub_cancel]
      have hne : n ≠ i := fun e => by
        subst e
        have : lkC cf c (gtS S n).1 = some s := hl
        rw [this] at h4; cases h4
      have := addS_long (n : Int) (plL cf s.k) S
      exact ih _ (n + 1) i (by omega) (by omega) (by omega) (by rw [addS_old _ _ _ _ h2]; exact h4)
theorem bk_last (S : List Stp) (h : frS S) : ∀ (f z : Nat), z < S.length → z < f → ∃ j, j ≤ z ∧ (bkG S f (z : Int)).getD ((bkG S f (z : Int)).length - 1) (0, 0) = (gtS S j).1 ∧ (gtS S j).2 = -1 := by
  intro f
  induction f with
  | zero => intro z _ h; omega
  | succ f ih =>
    intro z hz hf
    rw [bkG_step S (f + 1) z hf, Nat.add_sub_cancel]
    obtain ⟨a, b⟩ := h z hz
    by_cases e : (S.getD z ((0, 0), 0)).2 = -1
    · rw [e, bkG_neg]
      exact ⟨z, Nat.le_refl _, rfl, e⟩
    · obtain ⟨j, hj⟩ : ∃ j : Nat, (S.getD z ((0, 0), 0)).2 = (j : Int) := ⟨(S.getD z ((0, 0), 0)).2.toNat, by omega⟩
      rw [hj] at b ⊢
      obtain ⟨j', h1, h2, h3⟩ := ih j (by omega) (by omega)
      refine ⟨j', by omega, ?_, h3⟩
      have hne : 0 < (bkG S f (j : Int)).length := by rw [bkG_step S f j (by omega)]; simp
      rw [List.length_cons, show (bkG S f (j : Int)).length + 1 - 1 = ((bkG S f (j : Int)).length - 1) + 1 by omega, List.getD_cons_succ]
      exact h2
theorem srN_from (cf : Cf) (c : Nat → Option Se) (S0 : List Stp) (R : List Pl) : ∀ (f : Nat) (S : List Stp) (n : Nat), frS S → S0.length ≤ S.length → (∀ i, i < S0.length → gtS S i = gtS S0 i) → (∀ i, S0.length ≤ i → i < S.length → (gtS S i).2 ≠ -1) → srN cf c f S n = some R →
    ∃ j, j < n + f ∧ j < S0.length ∧ gtP R 0 = (gtS S0 j).1 := by
  intro f
  induction f with
  | zero => intro S n _ _ _ _ h; cases h
  | succ f ih =>
    intro S n hf h0 h1 h2 h
    by_cases hn : n < S.length
    · cases hl : lkN cf.st.toNat cf.sz.toNat c (S.getD n ((0, 0), 0)).1 with
      | none =>
        rw [srN_free cf c (f + 1) n S hn (by omega) hl] at h
        cases h
        obtain ⟨j, a, b, d⟩ := bk_last S hf S.length n hn hn
        have hj : j < S0.length := by
          rcases Nat.lt_or_ge j S0.length with q | q
          · exact q
          · exact absurd d (h2 j q (by omega))
        have hne : 0 < (bkL S n).length := by unfold bkL; rw [bkG_step S _ n hn]; simp
        refine ⟨j, by omega, hj, ?_⟩
        unfold gtP
        rw [rev_getD _ _ hne, Nat.sub_zero, ← h1 j hj]
        exact b
      | some s =>
        rw [srN_on cf c (f + 1) n S s hn (by omega) hl, Nat.add_sub_cancel] at h
        have hlong := addS_long (n : Int) (plL cf s.k) S
        obtain ⟨j, a, b⟩ := ih _ (n + 1) (addS_fr _ _ _ hf (by omega) (by omega)) (by omega) (fun i hi => by rw [addS_old _ _ _ _ (by omega)]; exact h1 i hi) (fun i q hi => by
          rcases addS_get (n : Int) (plL cf s.k) S i hi with ⟨x, e⟩ | ⟨_, e, _⟩
          · rw [e]; exact h2 i q x
          · rw [e]; omega) h
        exact ⟨j, by omega, b⟩
    · unfold srN at h
      rw [if_neg hn] at h
      cases h
theorem ins_again (cf : Cf) (hok : okC cf = true) (c c' : Nat → Option Se) (k : Fl) (R : List Pl) (h : insW cf c k = some R) (hl : lkC cf c' (gtP R 0) = none) : ∃ R', insW cf c' k = some R' := by
  have hs := SInv.start cf hok c k
  obtain ⟨j, a, b, e⟩ := srN_from cf c (addS (-1) [] (plL cf k)) R _ _ 0 hs.f (Nat.le_refl _) (fun _ _ => rfl) (fun i h1 h2 => by omega) h
  exact srN_finds cf c' _ _ 0 j (Nat.zero_le _) b (by omega) (by rw [← e]; exact hl)
end Go.Proofs.Ythldpnifodbheaa
namespace Go.Proofs.Ythldpnifodbheaa
open Go.RowKit Go.Lib
section
variable {cf : Cf} {c : Nat → Option Se}
theorem ins_not {k : Fl} (hk : k.Fit) {v r : Int} (h : insE cf c k v r ≠ 0) : insC cf c k hk v r = c ∧ insM cf c k v r = [] := by
  by_cases h0 : rfE cf c k v r = 0
  · cases hw : insW cf c k with
    | none => exact (ins_full cf c k hk v r h0 hw).2
    | some R => exact absurd (ins_yes cf c k hk v r R h0 hw).1 h
  · exact (ins_no cf c k hk v r h0).2
theorem ins_was {k : Fl} {v r : Int} (h : insE cf c k v r = 0) : rfE cf c k v r = 0 ∧ ∃ R, insW cf c k = some R := by
  unfold insE at h
  by_cases h0 : rfE cf c k v r = 0
  · rw [if_pos h0] at h
    cases hw : insW cf c k with
    | none => rw [hw] at h; cases h
    | some R => exact ⟨h0, R, rfl⟩
  · rw [if_neg h0] at h; exact absurd h h0
variable (hok : okC cf = true) (hT : TI cf c)
include hok hT
theorem ins_TI {k : Fl} (hk : k.Fit) (v r : Int) : TI cf (insC cf c k hk v r) := by
  by_cases h : insE cf c k v r = 0
  · obtain ⟨h0, R, hw⟩ := ins_was h
    exact (ins_spec hok hT hk h0 hw).2.1
  · rw [(ins_not hk h).1]; exact hT
theorem ins_mem {k : Fl} (hk : k.Fit) (v r : Int) (x : Se) (h : memC cf (insC cf c k hk v r) x) : x = nwS cf k hk v r ∨ memC cf c x := by
  by_cases he : insE cf c k v r = 0
  · obtain ⟨h0, R, hw⟩ := ins_was he
    exact ((ins_spec hok hT hk h0 hw).2.2.1 x).1 h
  · rw [(ins_not hk he).1] at h; exact .inr h
theorem again_spec {k : Fl} (hk : k.Fit) {v r r' : Int} (hv : vK k = true) (h0 : 0 ≤ v) (_h1 : 0 ≤ r) (h2 : 0 ≤ r') (hno : ∀ x, memC cf c x → x.k ≠ k) (he : insE cf c k v r = 0) :
    (∃ p, dlO cf (insC cf c k hk v r) k = some (p, nwS cf k hk v r)) ∧ TI cf (dlC cf (insC cf c k hk v r) k) ∧ cntC cf (dlC cf (insC cf c k hk v r) k) = cntC cf c ∧ dlO cf (dlC cf (insC cf c k hk v r) k) k = none ∧
      insE cf (dlC cf (insC cf c k hk v r) k) k v r' = 0 ∧ (∃ p, dlO cf (insC cf (dlC cf (insC cf c k hk v r) k) k hk v r') k = some (p, nwS cf k hk v r')) ∧
      cntC cf (dlC cf (insC cf (dlC cf (insC cf c k hk v r) k) k hk v r') k) = cntC cf c := by
  obtain ⟨hr, R, hw⟩ := ins_was he
  obtain ⟨-, hT1, hM1, hC1⟩ := ins_spec hok hT hk hr hw
  obtain ⟨-, -, -, -, htw⟩ := rfE_zero hok hT hr
  have W := way_ok cf hok c k R hw
  have hat : insC cf c k hk v r (numP cf (gtP R 0)) = some (nwS cf k hk v r) := by
    rw [(ins_yes cf c k hk v r R hr hw).2.1]; exact nwC_hd W _
  generalize insC cf c k hk v r = c1 at *
  have hs : memC cf c1 (nwS cf k hk v r) := (hM1 _).2 (.inl rfl)
  obtain ⟨hT2, hM2, hC2, p, hp1, hp2, hp3⟩ := del_spec hok hT1 hs
  change TI cf (dlC cf c1 k) at hT2
  change ∀ x, memC cf (dlC cf c1 k) x ↔ _ at hM2
  change cntC cf (dlC cf c1 k) + 1 = _ at hC2
  change dlO cf c1 k = _ at hp2
  change lkC cf (dlC cf c1 k) p = _ at hp3
  have hp : gtP R 0 = p := by
    obtain ⟨a, b, -⟩ := fst1_some _ _ _ _ hp2
    have hin := plL_inB cf hok k p a
    have hb : c1 (numP cf p) = some (nwS cf k hk v r) := by
      have : lkC cf c1 p = some (nwS cf k hk v r) := b
      rwa [lkC_in hin] at this
    exact numP_inj (W.ins 0 W.ne) hin (hT1.one _ _ _ _ (numP_lt (W.ins 0 W.ne)) (numP_lt (cf := cf) (p := p) hin) hat hb rfl)
  generalize dlC cf c1 k = c2 at *
  have hm2 : ∀ x, memC cf c2 x → memC cf c x := fun x hx => by
    obtain ⟨a, b⟩ := (hM2 x).1 hx
    exact ((hM1 x).1 a).resolve_left b
  have hno2 : ∀ x, memC cf c2 x → x.k ≠ k := fun x hx => hno x (hm2 x hx)
  have hr2 : rfE cf c2 k v r' = 0 := rfE_free hok hT2 hv h0 h2 hno2 fun x hx => htw x (hm2 x hx)
  obtain ⟨R', hw2⟩ := ins_again cf hok c c2 k R hw (by rw [hp]; exact hp3)
  obtain ⟨hE2, hT3, hM3, hC3⟩ := ins_spec hok hT2 hk hr2 hw2
  generalize insC cf c2 k hk v r' = c3 at *
  obtain ⟨-, -, hC4, p', -, hp5, -⟩ := del_spec hok hT3 ((hM3 (nwS cf k hk v r')).2 (.inl rfl))
  change cntC cf (dlC cf c3 k) + 1 = _ at hC4
  exact ⟨⟨p, hp2⟩, hT2, by omega, find_none hok hT2 hno2, hE2, ⟨p', hp5⟩, by omega⟩
end
end Go.Proofs.Ythldpnifodbheaa
namespace Go.Proofs.Ythldpnifodbheaa
open Go.RowKit Go.Lib
set_option maxRecDepth 100000 in
theorem kflow_inj {n m : Int} (v udp : Bool) (h1 : 0 ≤ n) (h2 : n < 16777216) (h3 : 0 ≤ m) (h4 : m < 16777216) (e : kflow n v udp = kflow m v udp) : n = m := by
  have hS := congrArg Fl.S e
  unfold kflow kS at hS
  simp only [List.cons_append, List.nil_append, List.cons.injEq] at hS
  obtain ⟨-, a, b, c, -⟩ := hS
  omega
def dgC (c : Cf) (d : Int) : Cf := { c with dg := d }
theorem dgC_fit {c : Cf} (h : c.Fit) (d : Int) : (dgC c d).Fit := ⟨h.lO, h.lX, h.bO, h.bX, h.sd⟩
theorem dgC_ok {c : Cf} (h : okC c = true) (d : Int) (h1 : 1 ≤ d) (h2 : d ≤ 16) : okC (dgC c d) = true := by
  unfold okC at h ⊢
  simp only [Bool.and_eq_true] at h ⊢
  obtain ⟨a1, a2, -, a4⟩ := h
  refine ⟨a1, a2, ?_, a4⟩
  unfold wi
  rw [Bool.and_eq_true]
  exact ⟨decide_eq_true h1, decide_eq_true h2⟩
theorem dgC_cs (c : Cf) (d : Int) : (dgC c d).cs = c.cs.setIfInBounds 2 (.int .i64 d) := by
  unfold dgC Cf.cs ccells
  rw [Array.append_assoc, Array.append_assoc, Array.append_assoc, Array.append_assoc]
  apply Array.ext'
  simp
end Go.Proofs.Ythldpnifodbheaa
namespace Go.Proofs.Ythldpnifodbheaa
open Go.RowKit Go.Lib
def viM (cf : Cf) (c : Nat → Option Se) (m : Nat) (rr : Nat → Int) : Prop := ∀ x, memC cf c x → ∃ i : Nat, i < m ∧ x.k = kflow (i : Int) false false ∧ x.v = (i : Int) ∧ x.r = rr i
theorem viM_none (cf : Cf) (rr : Nat → Int) : viM cf (fun _ => none) 0 rr := fun x hx => by obtain ⟨q, _, h⟩ := hx; cases h
section
variable {cf : Cf} {c : Nat → Option Se} (hok : okC cf = true) (hT : TI cf c) {m : Nat} {rr : Nat → Int} (hM : viM cf c m rr)
include hok hT hM
theorem vip_step (hm : m < 16777216) (hr : 0 ≤ rr m) (hk : (kflow (m : Int) false false).Fit) :
    twF cf (kflow (m : Int) false false) (m : Int) (itF c 0 (cf.st.toNat * cf.sz.toNat)) = none ∧ (insE cf c (kflow (m : Int) false false) (m : Int) (rr m) = 0 ∨ insE cf c (kflow (m : Int) false false) (m : Int) (rr m) = 3) ∧
      TI cf (insC cf c (kflow (m : Int) false false) hk (m : Int) (rr m)) ∧ viM cf (insC cf c (kflow (m : Int) false false) hk (m : Int) (rr m)) (m + 1) rr := by
  have hno : ∀ x, memC cf c x → x.k ≠ kflow (m : Int) false false := fun x hx e => by
    obtain ⟨i, h1, h2, -, -⟩ := hM x hx
    have := kflow_inj false false (by omega) (by omega) (by omega) (by omega) (h2.symm.trans e)
    omega
  have hv : ∀ x, memC cf c x → x.v ≠ (m : Int) := fun x hx e => by
    obtain ⟨i, h1, -, h3, -⟩ := hM x hx
    omega
  have htw : twF cf (kflow (m : Int) false false) (m : Int) (itF c 0 (cf.st.toNat * cf.sz.toNat)) = none := by
    refine (twF_none_iff cf _ _ _).2 fun y hy => ?_
    cases e : twB cf (kflow (m : Int) false false) (m : Int) y.2 with
    | false => rfl
    | true =>
      obtain ⟨-, -, b, -⟩ := (twB_iff cf _ _ y.2).1 e
      exact absurd b (hv _ ((itF_memC cf c y.2).2 ⟨y, hy, rfl⟩))
  have h0 : rfE cf c (kflow (m : Int) false false) (m : Int) (rr m) = 0 :=
    rfE_ok cf c _ _ _ (kflow_vK _ _ _) (by omega) hr (find_none hok hT hno) htw
  refine ⟨htw, ?_, ins_TI hok hT hk _ _, fun x hx => ?_⟩
  · unfold insE
    rw [if_pos h0]
    cases insW cf c (kflow (m : Int) false false) with
    | none => exact .inr rfl
    | some R => exact .inl rfl
  · rcases ins_mem hok hT hk _ _ x hx with rfl | h
    · exact ⟨m, by omega, rfl, rfl, rfl⟩
    · obtain ⟨i, h1, h2⟩ := hM x h
      exact ⟨i, by omega, h2⟩
theorem vip_end (i : Nat) (hi : i < m) (hm : m ≤ 16777216) :
    ∃ o : Option Se, (dlO cf c (kflow (i : Int) false false)).map (·.2) = o ∧ (fst1 (lkN cf.st.toNat cf.sz.toNat c) (fun s => hitsB s (dgN cf (kflow (i : Int) false false)) (i : Int)) (plL cf (kflow (i : Int) false false))).map (·.2) = o ∧
      (∀ s, o = some s → s.v = (i : Int) ∧ s.r = rr i) ∧ fst1 (lkN cf.st.toNat cf.sz.toNat c) (fun s => hitsB s (dgN cf (kflow (i : Int) false false)) ((m : Int) + (i : Int))) (plL cf (kflow (i : Int) false false)) = none := by
  have hlast : fst1 (lkN cf.st.toNat cf.sz.toNat c) (fun s => hitsB s (dgN cf (kflow (i : Int) false false)) ((m : Int) + (i : Int))) (plL cf (kflow (i : Int) false false)) = none := by
    refine (fst1_none_iff _ _ _).2 fun p hp s hs => ?_
    obtain ⟨j, h1, -, h3, -⟩ := hM s (seat_meet hok hT hp hs).2
    unfold hitsB
    rw [decide_eq_false (p := s.v = (m : Int) + (i : Int)) (by omega), Bool.and_false]
  by_cases hex : ∃ s, memC cf c s ∧ s.k = kflow (i : Int) false false
  · obtain ⟨s, hs, e⟩ := hex
    obtain ⟨j, h1, h2, h3, h4⟩ := hM s hs
    have hj := kflow_inj false false (by omega) (by omega) (by omega) (by omega) (h2.symm.trans e)
    obtain rfl : j = i := by omega
    obtain ⟨p, hp⟩ := find_mem hok hT hs
    obtain ⟨p', hp', -⟩ := look_mem hok hT hs
    rw [e] at hp hp'
    rw [h3] at hp'
    exact ⟨some s, by rw [hp]; rfl, by rw [hp']; rfl, fun s' h => by cases h; exact ⟨h3, h4⟩, hlast⟩
  · have hno : ∀ s, memC cf c s → s.k ≠ kflow (i : Int) false false := fun s hs e => hex ⟨s, hs, e⟩
    refine ⟨none, by rw [find_none hok hT hno]; rfl, ?_, (fun s h => by cases h), hlast⟩
    have : fst1 (lkN cf.st.toNat cf.sz.toNat c) (fun s => hitsB s (dgN cf (kflow (i : Int) false false)) (i : Int)) (plL cf (kflow (i : Int) false false)) = none := by
      refine (fst1_none_iff _ _ _).2 fun p hp s hs => ?_
      have hmem := (seat_meet hok hT hp hs).2
      obtain ⟨j, h1, h2, h3, -⟩ := hM s hmem
      unfold hitsB
      rw [decide_eq_false (p := s.v = (i : Int)) (fun e => hno s hmem (by rw [h2]; congr 1; omega)), Bool.and_false]
    rw [this]; rfl
end
end Go.Proofs.Ythldpnifodbheaa
