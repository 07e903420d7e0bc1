/- Texts that the walks of this seat lean on, put together. -/
import Derived.Test.YthldpnifodbheaaTk
import Derived.Test.YthldpnifodbheaaTl
import Derived.Test.YthldpnifodbheaaM13
import Derived.Test.YthldpnifodbheaaM29
import Derived.Test.YthldpnifodbheaaM39
namespace Go.Proofs.Ythldpnifodbheaa
open Go.RowKit Go.Lib
theorem fst1_some (f : Pl → Option Se) (q : Se → Bool) : ∀ (L : List Pl) (o : Pl × Se), fst1 f q L = some o → o.1 ∈ L ∧ f o.1 = some o.2 ∧ q o.2 = true
  | [], o, h => by cases h
  | p :: L, o, h => by
    cases hp : f p with
    | none =>
      rw [show p :: L = [] ++ [p] ++ L by simp, fst1_append f q _ L (fst1_one_none f q [] p rfl hp)] at h
      obtain ⟨a, b, c⟩ := fst1_some f q L o h
      exact ⟨List.mem_cons_of_mem _ a, b, c⟩
    | some s =>
      cases hq : q s with
      | true =>
        rw [fst1_hd f q p L s hp hq] at h
        cases h
        exact ⟨List.mem_cons_self .., hp, hq⟩
      | false =>
        rw [fst1_hd_no f q p L s hp hq] at h
        obtain ⟨a, b, c⟩ := fst1_some f q L o h
        exact ⟨List.mem_cons_of_mem _ a, b, c⟩
theorem fst1_none_iff (f : Pl → Option Se) (q : Se → Bool) : ∀ (L : List Pl), fst1 f q L = none ↔ ∀ p ∈ L, ∀ s, f p = some s → q s = false
  | [] => ⟨fun _ _ h => (by cases h), fun _ => rfl⟩
  | p :: L => by
    have ih := fst1_none_iff f q L
    cases hp : f p with
    | none =>
      rw [show p :: L = [] ++ [p] ++ L by simp, fst1_append f q _ L (fst1_one_none f q [] p rfl hp), ih]
      constructor
      · intro h x hx s hs
        simp at hx
        rcases hx with rfl | hx
        · rw [hp] at hs; cases hs
        · exact h x hx s hs
      · intro h x hx s hs
        exact h x (by simp; exact .inr hx) s hs
    | some t =>
      cases hq : q t with
      | true =>
        rw [fst1_hd f q p L t hp hq]
        constructor
        · intro h; cases h
        · intro h
          have := h p (List.mem_cons_self ..) t hp
          rw [hq] at this; cases this
      | false =>
        rw [fst1_hd_no f q p L t hp hq, ih]
        constructor
        · intro h x hx s hs
          rw [List.mem_cons] at hx
          rcases hx with rfl | hx
          · rw [hp] at hs; cases hs; exact hq
          · exact h x hx s hs
        · intro h x hx s hs
          exact h x (List.mem_cons_of_mem _ hx) s hs
def meet (cf : Cf) (k l : Fl) : Prop := vK k = true ∧ vK l = true ∧ ∃ a, a < cf.st.toNat ∧ plN cf k a = plN cf l a
theorem meet_comm {cf : Cf} {k l : Fl} (h : meet cf k l) : meet cf l k := by
  obtain ⟨h1, h2, a, h3, h4⟩ := h
  exact ⟨h2, h1, a, h3, h4.symm⟩
theorem any_meet (cf : Cf) (k l : Fl) : (plL cf k).any (mtF (plL cf l)) = true ↔ meet cf k l := by
  rw [List.any_eq_true]
  constructor
  · rintro ⟨p, hp, hm⟩
    cases hk : vK k with
    | false => rw [plL_no hk] at hp; cases hp
    | true =>
      cases hl : vK l with
      | false => rw [plL_no hl] at hm; unfold mtF at hm; simp at hm
      | true =>
        rw [plL_yes hk, List.mem_map] at hp
        obtain ⟨a, ha, rfl⟩ := hp
        have ha := List.mem_range.1 ha
        unfold mtF at hm
        simp only [Bool.and_eq_true, decide_eq_true_iff] at hm
        have h2 := hm.2
        rw [plL_get cf l hl a ha] at h2
        exact ⟨hk, hl, a, ha, (congrArg Prod.snd h2).symm⟩
  · rintro ⟨hk, hl, a, ha, e⟩
    refine ⟨(a, plN cf k a), ?_, ?_⟩
    · rw [plL_yes hk, List.mem_map]; exact ⟨a, List.mem_range.2 ha, rfl⟩
    · unfold mtF
      simp only [Bool.and_eq_true, decide_eq_true_iff]
      refine ⟨by rw [plL_len cf l hl]; exact ha, ?_⟩
      rw [plL_get cf l hl a ha, e]
theorem any_meet_no (cf : Cf) (k l : Fl) (h : ¬ meet cf k l) : (plL cf k).any (mtF (plL cf l)) = false := by
  cases e : (plL cf k).any (mtF (plL cf l)) with
  | false => rfl
  | true => exact absurd ((any_meet cf k l).1 e) h
theorem mem_plL {cf : Cf} {k : Fl} {p : Pl} (h : p ∈ plL cf k) : vK k = true ∧ p.1 < cf.st.toNat ∧ p.2 = plN cf k p.1 := by
  cases hk : vK k with
  | false => rw [plL_no hk] at h; cases h
  | true =>
    rw [plL_yes hk, List.mem_map] at h
    obtain ⟨a, ha, rfl⟩ := h
    exact ⟨rfl, List.mem_range.1 ha, rfl⟩
section
variable {cf : Cf} {c : Nat → Option Se} (hok : okC cf = true) (hT : TI cf c)
include hok hT
theorem seat_meet {k : Fl} {p : Pl} (hp : p ∈ plL cf k) {s : Se} (hs : lkC cf c p = some s) : meet cf k s.k ∧ memC cf c s := by
  have hin := plL_inB cf hok k p hp
  rw [lkC_in hin] at hs
  have hlt := numP_lt (cf := cf) (p := p) hin
  obtain ⟨p', hp', e⟩ := hT.pl _ s hlt hs
  have := numP_inj hin (plL_inB cf hok s.k p' hp') e
  subst this
  obtain ⟨a1, a2, a3⟩ := mem_plL hp
  obtain ⟨b1, b2, b3⟩ := mem_plL hp'
  exact ⟨⟨a1, b1, p.1, a2, a3.symm.trans b3⟩, _, hlt, hs⟩
theorem mem_at {s : Se} (hs : memC cf c s) : ∃ p, p ∈ plL cf s.k ∧ lkC cf c p = some s := by
  obtain ⟨q, hq, e⟩ := hs
  obtain ⟨p, hp, rfl⟩ := hT.pl q s hq e
  exact ⟨p, hp, by rw [lkC_in (plL_inB cf hok s.k p hp)]; exact e⟩
theorem find_mem {s : Se} (hs : memC cf c s) : ∃ p, dlO cf c s.k = some (p, s) := by
  obtain ⟨p, hp, hl⟩ := mem_at hok hT hs
  cases h : dlO cf c s.k with
  | none =>
    have := (fst1_none_iff _ _ _).1 h p hp s hl
    simp at this
  | some o =>
    obtain ⟨h1, h2, h3⟩ := fst1_some _ _ _ o h
    obtain ⟨-, hm⟩ := seat_meet hok hT h1 h2
    have := hT.mem_one hm hs (of_decide_eq_true h3)
    exact ⟨o.1, by rw [← this]⟩
theorem find_none {k : Fl} (h : ∀ s, memC cf c s → s.k ≠ k) : dlO cf c k = none := by
  refine (fst1_none_iff _ _ _).2 fun p hp s hs => decide_eq_false ?_
  exact h s (seat_meet hok hT hp hs).2
theorem look_mem {s : Se} (hs : memC cf c s) : ∃ p, fst1 (lkN cf.st.toNat cf.sz.toNat c) (fun x => hitsB x (dgN cf s.k) s.v) (plL cf s.k) = some (p, s) ∧ lkN cf.st.toNat cf.sz.toNat c p = some s := by
  obtain ⟨p, hp, hl⟩ := mem_at hok hT hs
  have hd := hT.mem_dg hs
  cases h : fst1 (lkN cf.st.toNat cf.sz.toNat c) (fun x => hitsB x (dgN cf s.k) s.v) (plL cf s.k) with
  | none =>
    have := (fst1_none_iff _ _ _).1 h p hp s hl
    unfold hitsB at this
    rw [decide_eq_true hd, decide_eq_true rfl] at this
    cases this
  | some o =>
    obtain ⟨h1, h2, h3⟩ := fst1_some _ _ _ o h
    obtain ⟨hm, hmem⟩ := seat_meet hok hT h1 h2
    unfold hitsB at h3
    simp only [Bool.and_eq_true, decide_eq_true_iff] at h3
    by_cases e : o.2.k = s.k
    · have := hT.mem_one hmem hs e
      rw [this] at h2
      exact ⟨o.1, by rw [← this], h2⟩
    · obtain ⟨q, hq, eq⟩ := hs
      obtain ⟨q', hq', eq'⟩ := hmem
      have := hT.tw q' q o.2 s hq' hq eq' eq e (h3.1.trans hd.symm) h3.2
      rw [(any_meet cf _ _).2 (meet_comm hm)] at this
      cases this
end
theorem twB_iff (cf : Cf) (k : Fl) (v : Int) (s : Se) : twB cf k v s = true ↔ s.k ≠ k ∧ s.d = dgN cf k ∧ s.v = v ∧ meet cf k s.k := by
  unfold twB hitsB
  rw [Bool.and_eq_true, Bool.and_eq_true, any_meet]
  simp [and_assoc]
theorem twF_none_iff (cf : Cf) (k : Fl) (v : Int) (l : List (Nat × Se)) : twF cf k v l = none ↔ ∀ x ∈ l, twB cf k v x.2 = false := by
  have key : ∀ (l : List (Nat × Se)) (b : Option Fl), l.foldl (fun b x => twS cf k v b x.2) b = none ↔ b = none ∧ ∀ x ∈ l, twB cf k v x.2 = false := by
    intro l
    induction l with
    | nil => intro b; simp
    | cons y l ih =>
      intro b
      rw [List.foldl_cons, ih]
      unfold twS
      cases hb : twB cf k v y.2 with
      | false => simp [hb]
      | true =>
        cases b with
        | none => simp [twP, hb]
        | some z =>
          simp only [Bool.true_and]
          split <;> simp
  exact (key l none).trans (by simp)
theorem itF_memC (cf : Cf) (c : Nat → Option Se) (s : Se) : memC cf c s ↔ ∃ x ∈ itF c 0 (cf.st.toNat * cf.sz.toNat), x.2 = s := by
  constructor
  · rintro ⟨q, hq, e⟩
    exact ⟨(q, s), (itF_mem c 0 _ _).2 ⟨Nat.zero_le _, by simpa using hq, e⟩, rfl⟩
  · rintro ⟨x, hx, rfl⟩
    obtain ⟨-, h2, h3⟩ := (itF_mem c 0 _ _).1 hx
    exact ⟨x.1, by simpa using h2, h3⟩
end Go.Proofs.Ythldpnifodbheaa
namespace Go.Proofs.Ythldpnifodbheaa
open Go.RowKit Go.Lib
section
variable {cf : Cf} {c : Nat → Option Se} (hok : okC cf = true) (hT : TI cf c)
include hok hT
theorem rfE_zero {k : Fl} {v r : Int} (h : rfE cf c k v r = 0) : vK k = true ∧ 0 ≤ v ∧ 0 ≤ r ∧ (∀ x, memC cf c x → x.k ≠ k) ∧ ∀ x, memC cf c x → x.d = dgN cf k → x.v = v → ¬ meet cf k x.k := by
  unfold rfE at h
  split at h
  · cases h
  · rename_i h1
    split at h
    · cases h
    · rename_i h2
      split at h
      · cases h
      · rename_i h3
        have hv : vK k = true := by cases e : vK k with | true => rfl | false => exact absurd (.inl e) h1
        have hno : ∀ x, memC cf c x → x.k ≠ k := fun x hx e => by
          obtain ⟨p, hp⟩ := find_mem hok hT hx
          rw [e] at hp
          have : (fst1 (lkN cf.st.toNat cf.sz.toNat c) (fun s => decide (s.k = k)) (plL cf k)) = some (p, x) := hp
          rw [this] at h2
          exact h2 rfl
        refine ⟨hv, by omega, by omega, hno, fun x hx hd hvv hm => ?_⟩
        have htw : twF cf k v (itF c 0 (cf.st.toNat * cf.sz.toNat)) = none := by
          cases e : twF cf k v (itF c 0 (cf.st.toNat * cf.sz.toNat)) with
          | none => rfl
          | some w => rw [e] at h3; exact absurd rfl h3
        obtain ⟨y, hy, rfl⟩ := (itF_memC cf c x).1 hx
        have := (twF_none_iff cf k v _).1 htw y hy
        rw [(twB_iff cf k v y.2).2 ⟨hno _ hx, hd, hvv, hm⟩] at this
        cases this
theorem rfE_there {k : Fl} {v r : Int} (hv : vK k = true) (h1 : 0 ≤ v) (h2 : 0 ≤ r) {x : Se} (hx : memC cf c x) (e : x.k = k) : rfE cf c k v r = 6 := by
  obtain ⟨p, hp⟩ := find_mem hok hT hx
  rw [e] at hp
  exact rfE_have cf c k v r hv h1 h2 _ hp
theorem rfE_not_there {k : Fl} {v r : Int} (h : ∀ x, memC cf c x → x.k ≠ k) : rfE cf c k v r ≠ 6 := by
  have hn : fst1 (lkN cf.st.toNat cf.sz.toNat c) (fun s => decide (s.k = k)) (plL cf k) = none := find_none hok hT h
  unfold rfE
  rw [hn]
  split
  · decide
  · split
    · rename_i h; cases h
    · split <;> decide
theorem ins_spec {k : Fl} (hk : k.Fit) {v r : Int} (h : rfE cf c k v r = 0) {R : List Pl} (hw : insW cf c k = some R) :
    insE cf c k v r = 0 ∧ TI cf (insC cf c k hk v r) ∧ (∀ x, memC cf (insC cf c k hk v r) x ↔ x = nwS cf k hk v r ∨ memC cf c x) ∧ cntC cf (insC cf c k hk v r) = cntC cf c + 1 := by
  obtain ⟨-, h1, h2, hno, htw⟩ := rfE_zero hok hT h
  obtain ⟨i1, i2, -⟩ := ins_yes cf c k hk v r R h hw
  have W := way_ok cf hok c k R hw
  rw [i2]
  refine ⟨i1, ?_, fun x => nwC_mem W (nwS cf k hk v r) x, nwC_cnt W (nwS cf k hk v r)⟩
  refine nwC_TI W hT (nwS cf k hk v r) rfl rfl hno fun x hx hd hv => ?_
  have hm : ¬ meet cf k x.k := htw x hx hd.symm hv.symm
  exact ⟨any_meet_no cf _ _ hm, any_meet_no cf _ _ fun q => hm (meet_comm q)⟩
theorem del_spec {s : Se} (hs : memC cf c s) : TI cf (dlC cf c s.k) ∧ (∀ x, memC cf (dlC cf c s.k) x ↔ memC cf c x ∧ x ≠ s) ∧ cntC cf (dlC cf c s.k) + 1 = cntC cf c ∧ ∃ p, p ∈ plL cf s.k ∧ dlO cf c s.k = some (p, s) ∧ lkC cf (dlC cf c s.k) p = none := by
  obtain ⟨p, hp⟩ := find_mem hok hT hs
  obtain ⟨h1, h2, -⟩ := fst1_some _ _ _ _ hp
  have hin := plL_inB cf hok s.k p h1
  have hlt : numP cf p < cf.st.toNat * cf.sz.toNat := numP_lt (cf := cf) (p := p) hin
  have hl : c (numP cf p) = some s := by
    have : lkC cf c p = some s := h2
    rwa [lkC_in hin] at this
  have e : dlC cf c s.k = putC c (numP cf p) none := by
    unfold dlC
    rw [hp]
    exact ptN_in (cf := cf) (p := p) hin none
  rw [e]
  have old : ∀ q x, putC c (numP cf p) none q = some x → c q = some x ∧ q ≠ numP cf p := fun q x h => by
    by_cases he : q = numP cf p
    · rw [he, putC_at] at h; cases h
    · rw [putC_off _ _ _ _ he] at h; exact ⟨h, he⟩
  refine ⟨⟨fun q x hq h => hT.pl q x hq (old q x h).1, fun q q' x x' hq hq' h h' => hT.one q q' x x' hq hq' (old q x h).1 (old q' x' h').1, fun q x hq h => hT.dg q x hq (old q x h).1, fun q q' x x' hq hq' h h' => hT.tw q q' x x' hq hq' (old q x h).1 (old q' x' h').1⟩, fun x => ?_, cnt_out hlt s hl, p, h1, hp, by rw [lkC_in hin, putC_at]⟩
  constructor
  · rintro ⟨q, hq, h⟩
    obtain ⟨a, b⟩ := old q x h
    refine ⟨⟨q, hq, a⟩, fun e => b ?_⟩
    subst e
    exact hT.one q _ x x hq hlt a hl rfl
  · rintro ⟨⟨q, hq, h⟩, hne⟩
    refine ⟨q, hq, ?_⟩
    rw [putC_off _ _ _ _ (fun e => hne (by rw [e, hl] at h; exact (Option.some.inj h).symm))]
    exact h
end
end Go.Proofs.Ythldpnifodbheaa
namespace Go.Proofs.Ythldpnifodbheaa
open Go.RowKit Go.Lib
section
variable {cf : Cf} {c : Nat → Option Se}
theorem ins_not {k : Fl} (hk : k.Fit) {v r : Int} (h : insE cf c k v r ≠ 0) : insC cf c k hk v r = c ∧ insM cf c k v r = [] := by
  by_cases h0 : rfE cf c k v r = 0
  · cases hw : insW cf c k with
    | none => exact (ins_full cf c k hk v r h0 hw).2
    | some R => exact absurd (ins_yes cf c k hk v r R h0 hw).1 h
  · exact (ins_no cf c k hk v r h0).2
theorem ins_was {k : Fl} {v r : Int} (h : insE cf c k v r = 0) : rfE cf c k v r = 0 ∧ ∃ R, insW cf c k = some R := by
  unfold insE at h
  by_cases h0 : rfE cf c k v r = 0
  · rw [if_pos h0] at h
    cases hw : insW cf c k with
    | none => rw [hw] at h; cases h
    | some R => exact ⟨h0, R, rfl⟩
  · rw [if_neg h0] at h; exact absurd h h0
variable (hok : okC cf = true) (hT : TI cf c)
include hok hT
end
end Go.Proofs.Ythldpnifodbheaa
namespace Go.Proofs.Ythldpnifodbheaa
open Go.RowKit Go.Lib
set_option maxRecDepth 100000 in
theorem kflow_inj {n m : Int} (v udp : Bool) (h1 : 0 ≤ n) (h2 : n < 16777216) (h3 : 0 ≤ m) (h4 : m < 16777216) (e : kflow n v udp = kflow m v udp) : n = m := by
  have hS := congrArg Fl.S e
  unfold kflow kS at hS
  simp only [List.cons_append, List.nil_append, List.cons.injEq] at hS
  obtain ⟨-, a, b, c, -⟩ := hS
  omega
end Go.Proofs.Ythldpnifodbheaa
namespace Go.Proofs.Ythldpnifodbheaa
open Go.RowKit Go.Lib
abbrev fiK (n : Nat) : Fl := kflow (n : Int) false false
structure FI (cf : Cf) (c : Nat → Option Se) (L : List Nat) : Prop where
  T : TI cf c
  lt : ∀ n ∈ L, n < 5000
  nd : L.Nodup
  mem : ∀ x, memC cf c x ↔ ∃ n ∈ L, x.k = fiK n ∧ x.d = dgN cf (fiK n) ∧ x.v = ((n % 2 : Nat) : Int) ∧ x.r = ((n % 7 : Nat) : Int)
  cnt : cntC cf c = L.length
theorem FI.none (cf : Cf) : FI cf (fun _ => none) [] :=
  ⟨TI.none cf, fun _ h => (by cases h), List.nodup_nil, fun x => ⟨fun h => (by obtain ⟨q, _, h⟩ := h; cases h), fun ⟨n, h, _⟩ => (by cases h)⟩, by unfold cntC; rw [itF_none]; rfl⟩
theorem fiK_inj {n m : Nat} (h1 : n < 5000) (h2 : m < 5000) (e : fiK n = fiK m) : n = m := by
  have := kflow_inj false false (n := (n : Int)) (m := (m : Int)) (by omega) (by omega) (by omega) (by omega) e
  omega
theorem Se.ext' {a b : Se} (h1 : a.k = b.k) (h2 : a.d = b.d) (h3 : a.v = b.v) (h4 : a.r = b.r) : a = b := by
  cases a; cases b; simp at h1 h2 h3 h4; subst h1 h2 h3 h4; rfl
section
variable {cf : Cf} {c : Nat → Option Se} (hok : okC cf = true) {L : List Nat} (hF : FI cf c L)
include hok hF
theorem fi_ins (n : Nat) (hn : n < 5000) (hk : (fiK n).Fit) :
    (insE cf c (fiK n) ((n % 2 : Nat) : Int) ((n % 7 : Nat) : Int) = 6 ↔ n ∈ L) ∧
      (insE cf c (fiK n) ((n % 2 : Nat) : Int) ((n % 7 : Nat) : Int) = 0 → FI cf (insC cf c (fiK n) hk ((n % 2 : Nat) : Int) ((n % 7 : Nat) : Int)) (L ++ [n])) ∧
      (insE cf c (fiK n) ((n % 2 : Nat) : Int) ((n % 7 : Nat) : Int) ≠ 0 → FI cf (insC cf c (fiK n) hk ((n % 2 : Nat) : Int) ((n % 7 : Nat) : Int)) L) := by
  have hin : n ∈ L → ∃ x, memC cf c x ∧ x.k = fiK n := fun h =>
    ⟨nwS cf (fiK n) hk _ _, (hF.mem _).2 ⟨n, h, rfl, rfl, rfl, rfl⟩, rfl⟩
  have hno : n ∉ L → ∀ x, memC cf c x → x.k ≠ fiK n := fun h x hx e => by
    obtain ⟨m, h1, h2, -⟩ := (hF.mem x).1 hx
    have := fiK_inj (hF.lt m h1) hn (h2.symm.trans e)
    exact h (this ▸ h1)
  refine ⟨⟨fun h => ?_, fun h => ?_⟩, fun h => ?_, fun h => ?_⟩
  · rcases Classical.em (n ∈ L) with q | q
    · exact q
    · exfalso
      have h6 : rfE cf c (fiK n) ((n % 2 : Nat) : Int) ((n % 7 : Nat) : Int) ≠ 6 := rfE_not_there hok hF.T (hno q)
      unfold insE at h
      split at h
      · split at h <;> cases h
      · exact h6 h
  · obtain ⟨x, hx, e⟩ := hin h
    have h6 : rfE cf c (fiK n) ((n % 2 : Nat) : Int) ((n % 7 : Nat) : Int) = 6 := rfE_there hok hF.T (kflow_vK _ _ _) (by omega) (by omega) hx e
    unfold insE
    rw [if_neg (by rw [h6]; decide), h6]
  · obtain ⟨h0, R, hw⟩ := ins_was h
    obtain ⟨-, b, d, e⟩ := ins_spec hok hF.T hk h0 hw
    obtain ⟨-, -, -, hno', -⟩ := rfE_zero hok hF.T h0
    have hnL : n ∉ L := fun q => by obtain ⟨x, hx, e⟩ := hin q; exact hno' x hx e
    refine ⟨b, fun m hm => ?_, ?_, fun x => ?_, ?_⟩
    · rw [List.mem_append, List.mem_singleton] at hm
      rcases hm with hm | rfl
      · exact hF.lt m hm
      · exact hn
    · rw [List.nodup_append]
      refine ⟨hF.nd, List.nodup_cons.2 ⟨by simp, List.nodup_nil⟩, fun a ha y hy e' => ?_⟩
      rw [List.mem_singleton] at hy
      rw [e', hy] at ha
      exact hnL ha
    · rw [d x]
      constructor
      · rintro (rfl | hx)
        · exact ⟨n, by simp, rfl, rfl, rfl, rfl⟩
        · obtain ⟨m, h1, h2⟩ := (hF.mem x).1 hx
          exact ⟨m, by simp [h1], h2⟩
      · rintro ⟨m, h1, h2, h3, h4, h5⟩
        rw [List.mem_append, List.mem_singleton] at h1
        rcases h1 with h1 | rfl
        · exact .inr ((hF.mem x).2 ⟨m, h1, h2, h3, h4, h5⟩)
        · exact .inl (Se.ext' h2 h3 h4 h5)
    · rw [e, hF.cnt, List.length_append]; rfl
  · rw [(ins_not hk h).1]; exact hF
theorem fi_del (i : Nat) (hi : i < L.length) :
    ∃ p s, dlO cf c (fiK (L.getD i 0)) = some (p, s) ∧ s.r = ((L.getD i 0 % 7 : Nat) : Int) ∧ FI cf (dlC cf c (fiK (L.getD i 0))) (L.take i ++ L.drop (i + 1)) := by
  have hget : L.getD i 0 = L[i] := by simp [hi]
  have hmL : L[i] ∈ L := List.getElem_mem hi
  rw [hget]
  have hk := kflow_fit (L[i] : Int) false false
  obtain ⟨s, hs, e1, e2, e3, e4⟩ : ∃ s, memC cf c s ∧ s.k = fiK L[i] ∧ s.d = dgN cf (fiK L[i]) ∧ s.v = ((L[i] % 2 : Nat) : Int) ∧ s.r = ((L[i] % 7 : Nat) : Int) :=
    ⟨nwS cf (fiK L[i]) hk _ _, (hF.mem _).2 ⟨L[i], hmL, rfl, rfl, rfl, rfl⟩, rfl, rfl, rfl, rfl⟩
  obtain ⟨a, b, d, p, -, h2, -⟩ := del_spec hok hF.T hs
  rw [e1] at a b d h2
  have hL : L = L.take i ++ L[i] :: L.drop (i + 1) := by rw [List.getElem_cons_drop, List.take_append_drop]
  have hmem : ∀ m, m ∈ L ↔ m = L[i] ∨ m ∈ L.take i ++ L.drop (i + 1) := fun m => by
    conv => lhs; rw [hL]
    simp only [List.mem_append, List.mem_cons]
    exact ⟨fun h => by rcases h with h | h | h <;> simp [h], fun h => by rcases h with h | h | h <;> simp [h]⟩
  have hnd : (L.take i ++ L.drop (i + 1)).Nodup ∧ L[i] ∉ L.take i ++ L.drop (i + 1) := by
    have h := hF.nd
    rw [hL, List.nodup_append] at h
    obtain ⟨n1, n2, n3⟩ := h
    rw [List.nodup_cons] at n2
    refine ⟨List.nodup_append.2 ⟨n1, n2.2, fun a ha y hy => n3 a ha y (List.mem_cons_of_mem _ hy)⟩, fun q => ?_⟩
    rcases List.mem_append.1 q with q | q
    · exact n3 _ q _ (List.mem_cons_self ..) rfl
    · exact n2.1 q
  refine ⟨p, s, h2, e4, ⟨a, fun m hm => hF.lt m ((hmem m).2 (.inr hm)), hnd.1, fun x => ?_, ?_⟩⟩
  · rw [b x]
    constructor
    · rintro ⟨hx, hne⟩
      obtain ⟨m, h1, h3, h4, h5, h6⟩ := (hF.mem x).1 hx
      rcases (hmem m).1 h1 with q | q
      · subst q
        exact absurd (Se.ext' (h3.trans e1.symm) (h4.trans e2.symm) (h5.trans e3.symm) (h6.trans e4.symm)) hne
      · exact ⟨m, q, h3, h4, h5, h6⟩
    · rintro ⟨m, h1, h3, h4, h5, h6⟩
      refine ⟨(hF.mem x).2 ⟨m, (hmem m).2 (.inr h1), h3, h4, h5, h6⟩, fun q => ?_⟩
      subst q
      have := fiK_inj (hF.lt m ((hmem m).2 (.inr h1))) (hF.lt _ hmL) (h3.symm.trans e1)
      exact hnd.2 (this ▸ h1)
  · have h := hF.cnt
    rw [List.length_append, List.length_take, List.length_drop]
    omega
theorem fi_look (n : Nat) (hn : n ∈ L) :
    ∃ p s, fst1 (lkN cf.st.toNat cf.sz.toNat c) (fun s => hitsB s (dgN cf (fiK n)) ((n % 2 : Nat) : Int)) (plL cf (fiK n)) = some (p, s) ∧ lkN cf.st.toNat cf.sz.toNat c p = some s ∧ s.k = fiK n ∧ s.v = ((n % 2 : Nat) : Int) ∧ s.r = ((n % 7 : Nat) : Int) := by
  have hk := kflow_fit (n : Int) false false
  have hs := (hF.mem (nwS cf (fiK n) hk ((n % 2 : Nat) : Int) ((n % 7 : Nat) : Int))).2 ⟨n, hn, rfl, rfl, rfl, rfl⟩
  obtain ⟨p, h1, h2⟩ := look_mem hok hF.T hs
  exact ⟨p, _, h1, h2, rfl, rfl, rfl⟩
end
end Go.Proofs.Ythldpnifodbheaa
