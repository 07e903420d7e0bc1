/- Texts that the walks of this seat lean on, put together. -/
import Derived.Test.YthldpnifodbheaaTk
import Derived.Test.YthldpnifodbheaaM14
import Derived.Test.YthldpnifodbheaaM30
import Derived.Test.YthldpnifodbheaaM41
namespace Go.Proofs.Ythldpnifodbheaa
open Go.RowKit Go.Lib
theorem fst1_some (f : Pl → Option Se) (q : Se → Bool) : ∀ (L : List Pl) (o : Pl × Se), fst1 f q L = some o → o.1 ∈ L ∧ f o.1 = some o.2 ∧ q o.2 = true
  | [], o, h => by cases h
  | p :: L, o, h => by
    cases hp : f p with
    | none =>
      rw [show p :: L = [] ++ [p] ++ L by simp, fst1_append f q _ L (fst1_one_none f q [] p rfl hp)] at h
      obtain ⟨a, b, c⟩ := fst1_some f q L o h
      exact ⟨List.mem_cons_of_mem _ a, b, c⟩
    | some s =>
      cases hq : q s with
      | true =>
        rw [fst1_hd f q p L s hp hq] at h
        cases h
        exact ⟨List.mem_cons_self .., hp, hq⟩
      | false =>
        rw [fst1_hd_no f q p L s hp hq] at h
        obtain ⟨a, b, c⟩ := fst1_some f q L o h
        exact ⟨List.mem_cons_of_mem _ a, b, c⟩
theorem fst1_none_iff (f : Pl → Option Se) (q : Se → Bool) : ∀ (L : List Pl), fst1 f q L = none ↔ ∀ p ∈ L, ∀ s, f p = some s → q s = false
  | [] => ⟨fun _ _ h => (by cases h), fun _ => rfl⟩
  | p :: L => by
    have ih := fst1_none_iff f q L
    cases hp : f p with
    | none =>
      rw [show p :: L = [] ++ [p] ++ L by simp, fst1_append f q _ L (fst1_one_none f q [] p rfl hp), ih]
      constructor
      · intro h x hx s hs
        simp at hx
        rcases hx with rfl | hx
        · rw [hp] at hs; cases hs
        · exact h x hx s hs
      · intro h x hx s hs
        exact h x (by simp; exact .inr hx) s hs
    | some t =>
      cases hq : q t with
      | true =>
        rw [fst1_hd f q p L t hp hq]
        constructor
        · intro h; cases h
        · intro h
          have := h p (List.mem_cons_self ..) t hp
          rw [hq] at this; cases this
      | false =>
        rw [fst1_hd_no f q p L t hp hq, ih]
        constructor
        · intro h x hx s hs
          rw [List.mem_cons] at hx
          rcases hx with rfl | hx
          · rw [hp] at hs; cases hs; exact hq
          · exact h x hx s hs
        · intro h x hx s hs
          exact h x (List.mem_cons_of_mem _ hx) s hs
def meet (cf : Cf) (k l : Fl) : Prop := vK k = true ∧ vK l = true ∧ ∃ a, a < cf.st.toNat ∧ plN cf k a = plN cf l a
theorem meet_comm {cf : Cf} {k l : Fl} (h : meet cf k l) : meet cf l k := by
  obtain ⟨h1, h2, a, h3, h4⟩ := h
  exact ⟨h2, h1, a, h3, h4.symm⟩
theorem any_meet (cf : Cf) (k l : Fl) : (plL cf k).any (mtF (plL cf l)) = true ↔ meet cf k l := by
  rw [List.any_eq_true]
  constructor
  · rintro ⟨p, hp, hm⟩
    cases hk : vK k with
    | false => rw [plL_no hk] at hp; cases hp
    | true =>
      cases hl : vK l with
      | false => rw [plL_no hl] at hm; unfold mtF at hm; simp at hm
      | true =>
        rw [plL_yes hk, List.mem_map] at hp
        obtain ⟨a, ha, rfl⟩ := hp
        have ha := List.mem_range.1 ha
        unfold mtF at hm
        simp only [Bool.and_eq_true, decide_eq_true_iff] at hm
        have h2 := hm.2
        rw [plL_get cf l hl a ha] at h2
        exact ⟨hk, hl, a, ha, (congrArg Prod.snd h2).symm⟩
  · rintro ⟨hk, hl, a, ha, e⟩
    refine ⟨(a, plN cf k a), ?_, ?_⟩
    · rw [plL_yes hk, List.mem_map]; exact ⟨a, List.mem_range.2 ha, rfl⟩
    · unfold mtF
      simp only [Bool.and_eq_true, decide_eq_true_iff]
      refine ⟨by rw [plL_len cf l hl]; exact ha, ?_⟩
      rw [plL_get cf l hl a ha, e]
theorem any_meet_no (cf : Cf) (k l : Fl) (h : ¬ meet cf k l) : (plL cf k).any (mtF (plL cf l)) = false := by
  cases e : (plL cf k).any (mtF (plL cf l)) with
  | false => rfl
  | true => exact absurd ((any_meet cf k l).1 e) h
theorem mem_plL {cf : Cf} {k : Fl} {p : Pl} (h : p ∈ plL cf k) : vK k = true ∧ p.1 < cf.st.toNat ∧ p.2 = plN cf k p.1 := by
  cases hk : vK k with
  | false => rw [plL_no hk] at h; cases h
  | true =>
    rw [plL_yes hk, List.mem_map] at h
    obtain ⟨a, ha, rfl⟩ := h
    exact ⟨rfl, List.mem_range.1 ha, rfl⟩
section
variable {cf : Cf} {c : Nat → Option Se} (hok : okC cf = true) (hT : TI cf c)
include hok hT
theorem seat_meet {k : Fl} {p : Pl} (hp : p ∈ plL cf k) {s : Se} (hs : lkC cf c p = some s) : meet cf k s.k ∧ memC cf c s := by
  have hin := plL_inB cf hok k p hp
  rw [lkC_in hin] at hs
  have hlt := numP_lt (cf := cf) (p := p) hin
  obtain ⟨p', hp', e⟩ := hT.pl _ s hlt hs
  have := numP_inj hin (plL_inB cf hok s.k p' hp') e
  subst this
  obtain ⟨a1, a2, a3⟩ := mem_plL hp
  obtain ⟨b1, b2, b3⟩ := mem_plL hp'
  exact ⟨⟨a1, b1, p.1, a2, a3.symm.trans b3⟩, _, hlt, hs⟩
omit hok in
theorem mem_vK {s : Se} (hs : memC cf c s) : vK s.k = true := by
  obtain ⟨q, hq, e⟩ := hs
  obtain ⟨p, hp, -⟩ := hT.pl q s hq e
  exact (mem_plL hp).1
theorem mem_at {s : Se} (hs : memC cf c s) : ∃ p, p ∈ plL cf s.k ∧ lkC cf c p = some s := by
  obtain ⟨q, hq, e⟩ := hs
  obtain ⟨p, hp, rfl⟩ := hT.pl q s hq e
  exact ⟨p, hp, by rw [lkC_in (plL_inB cf hok s.k p hp)]; exact e⟩
theorem find_mem {s : Se} (hs : memC cf c s) : ∃ p, dlO cf c s.k = some (p, s) := by
  obtain ⟨p, hp, hl⟩ := mem_at hok hT hs
  cases h : dlO cf c s.k with
  | none =>
    have := (fst1_none_iff _ _ _).1 h p hp s hl
    simp at this
  | some o =>
    obtain ⟨h1, h2, h3⟩ := fst1_some _ _ _ o h
    obtain ⟨-, hm⟩ := seat_meet hok hT h1 h2
    have := hT.mem_one hm hs (of_decide_eq_true h3)
    exact ⟨o.1, by rw [← this]⟩
end
theorem twB_iff (cf : Cf) (k : Fl) (v : Int) (s : Se) : twB cf k v s = true ↔ s.k ≠ k ∧ s.d = dgN cf k ∧ s.v = v ∧ meet cf k s.k := by
  unfold twB hitsB
  rw [Bool.and_eq_true, Bool.and_eq_true, any_meet]
  simp [and_assoc]
theorem twF_none_iff (cf : Cf) (k : Fl) (v : Int) (l : List (Nat × Se)) : twF cf k v l = none ↔ ∀ x ∈ l, twB cf k v x.2 = false := by
  have key : ∀ (l : List (Nat × Se)) (b : Option Fl), l.foldl (fun b x => twS cf k v b x.2) b = none ↔ b = none ∧ ∀ x ∈ l, twB cf k v x.2 = false := by
    intro l
    induction l with
    | nil => intro b; simp
    | cons y l ih =>
      intro b
      rw [List.foldl_cons, ih]
      unfold twS
      cases hb : twB cf k v y.2 with
      | false => simp [hb]
      | true =>
        cases b with
        | none => simp [twP, hb]
        | some z =>
          simp only [Bool.true_and]
          split <;> simp
  exact (key l none).trans (by simp)
theorem twF_some (cf : Cf) (k : Fl) (v : Int) (l : List (Nat × Se)) (w : Fl) (h : twF cf k v l = some w) : ∃ x ∈ l, twB cf k v x.2 = true ∧ x.2.k = w := by
  have key : ∀ (l : List (Nat × Se)) (b : Option Fl), l.foldl (fun b x => twS cf k v b x.2) b = some w → b = some w ∨ ∃ x ∈ l, twB cf k v x.2 = true ∧ x.2.k = w := by
    intro l
    induction l with
    | nil => intro b h; exact .inl h
    | cons y l ih =>
      intro b h
      rcases ih _ h with h1 | ⟨x, hx, h2⟩
      · replace h1 : twS cf k v b y.2 = some w := h1
        unfold twS at h1
        by_cases hb : (twB cf k v y.2 && twP b y.2) = true
        · rw [if_pos hb] at h1
          rw [Bool.and_eq_true] at hb
          exact .inr ⟨y, List.mem_cons_self .., hb.1, Option.some.inj h1⟩
        · rw [if_neg hb] at h1; exact .inl h1
      · exact .inr ⟨x, List.mem_cons_of_mem _ hx, h2⟩
  rcases key l none h with h | h
  · cases h
  · exact h
theorem itF_memC (cf : Cf) (c : Nat → Option Se) (s : Se) : memC cf c s ↔ ∃ x ∈ itF c 0 (cf.st.toNat * cf.sz.toNat), x.2 = s := by
  constructor
  · rintro ⟨q, hq, e⟩
    exact ⟨(q, s), (itF_mem c 0 _ _).2 ⟨Nat.zero_le _, by simpa using hq, e⟩, rfl⟩
  · rintro ⟨x, hx, rfl⟩
    obtain ⟨-, h2, h3⟩ := (itF_mem c 0 _ _).1 hx
    exact ⟨x.1, by simpa using h2, h3⟩
end Go.Proofs.Ythldpnifodbheaa
namespace Go.Proofs.Ythldpnifodbheaa
open Go.RowKit Go.Lib
section
variable {cf : Cf} {c : Nat → Option Se} (hok : okC cf = true) (hT : TI cf c)
include hok hT
theorem rfE_zero {k : Fl} {v r : Int} (h : rfE cf c k v r = 0) : vK k = true ∧ 0 ≤ v ∧ 0 ≤ r ∧ (∀ x, memC cf c x → x.k ≠ k) ∧ ∀ x, memC cf c x → x.d = dgN cf k → x.v = v → ¬ meet cf k x.k := by
  unfold rfE at h
  split at h
  · cases h
  · rename_i h1
    split at h
    · cases h
    · rename_i h2
      split at h
      · cases h
      · rename_i h3
        have hv : vK k = true := by cases e : vK k with | true => rfl | false => exact absurd (.inl e) h1
        have hno : ∀ x, memC cf c x → x.k ≠ k := fun x hx e => by
          obtain ⟨p, hp⟩ := find_mem hok hT hx
          rw [e] at hp
          have : (fst1 (lkN cf.st.toNat cf.sz.toNat c) (fun s => decide (s.k = k)) (plL cf k)) = some (p, x) := hp
          rw [this] at h2
          exact h2 rfl
        refine ⟨hv, by omega, by omega, hno, fun x hx hd hvv hm => ?_⟩
        have htw : twF cf k v (itF c 0 (cf.st.toNat * cf.sz.toNat)) = none := by
          cases e : twF cf k v (itF c 0 (cf.st.toNat * cf.sz.toNat)) with
          | none => rfl
          | some w => rw [e] at h3; exact absurd rfl h3
        obtain ⟨y, hy, rfl⟩ := (itF_memC cf c x).1 hx
        have := (twF_none_iff cf k v _).1 htw y hy
        rw [(twB_iff cf k v y.2).2 ⟨hno _ hx, hd, hvv, hm⟩] at this
        cases this
theorem ins_spec {k : Fl} (hk : k.Fit) {v r : Int} (h : rfE cf c k v r = 0) {R : List Pl} (hw : insW cf c k = some R) :
    insE cf c k v r = 0 ∧ TI cf (insC cf c k hk v r) ∧ (∀ x, memC cf (insC cf c k hk v r) x ↔ x = nwS cf k hk v r ∨ memC cf c x) ∧ cntC cf (insC cf c k hk v r) = cntC cf c + 1 := by
  obtain ⟨-, h1, h2, hno, htw⟩ := rfE_zero hok hT h
  obtain ⟨i1, i2, -⟩ := ins_yes cf c k hk v r R h hw
  have W := way_ok cf hok c k R hw
  rw [i2]
  refine ⟨i1, ?_, fun x => nwC_mem W (nwS cf k hk v r) x, nwC_cnt W (nwS cf k hk v r)⟩
  refine nwC_TI W hT (nwS cf k hk v r) rfl rfl hno fun x hx hd hv => ?_
  have hm : ¬ meet cf k x.k := htw x hx hd.symm hv.symm
  exact ⟨any_meet_no cf _ _ hm, any_meet_no cf _ _ fun q => hm (meet_comm q)⟩
end
end Go.Proofs.Ythldpnifodbheaa
namespace Go.Proofs.Ythldpnifodbheaa
open Go.RowKit Go.Lib
section
variable {cf : Cf} {c : Nat → Option Se}
theorem ins_not {k : Fl} (hk : k.Fit) {v r : Int} (h : insE cf c k v r ≠ 0) : insC cf c k hk v r = c ∧ insM cf c k v r = [] := by
  by_cases h0 : rfE cf c k v r = 0
  · cases hw : insW cf c k with
    | none => exact (ins_full cf c k hk v r h0 hw).2
    | some R => exact absurd (ins_yes cf c k hk v r R h0 hw).1 h
  · exact (ins_no cf c k hk v r h0).2
theorem ins_was {k : Fl} {v r : Int} (h : insE cf c k v r = 0) : rfE cf c k v r = 0 ∧ ∃ R, insW cf c k = some R := by
  unfold insE at h
  by_cases h0 : rfE cf c k v r = 0
  · rw [if_pos h0] at h
    cases hw : insW cf c k with
    | none => rw [hw] at h; cases h
    | some R => exact ⟨h0, R, rfl⟩
  · rw [if_neg h0] at h; exact absurd h h0
variable (hok : okC cf = true) (hT : TI cf c)
include hok hT
end
end Go.Proofs.Ythldpnifodbheaa
namespace Go.Proofs.Ythldpnifodbheaa
open Go.RowKit Go.Lib
def dgC (c : Cf) (d : Int) : Cf := { c with dg := d }
theorem dgC_fit {c : Cf} (h : c.Fit) (d : Int) : (dgC c d).Fit := ⟨h.lO, h.lX, h.bO, h.bX, h.sd⟩
theorem dgC_ok {c : Cf} (h : okC c = true) (d : Int) (h1 : 1 ≤ d) (h2 : d ≤ 16) : okC (dgC c d) = true := by
  unfold okC at h ⊢
  simp only [Bool.and_eq_true] at h ⊢
  obtain ⟨a1, a2, -, a4⟩ := h
  refine ⟨a1, a2, ?_, a4⟩
  unfold wi
  rw [Bool.and_eq_true]
  exact ⟨decide_eq_true h1, decide_eq_true h2⟩
theorem dgC_cs (c : Cf) (d : Int) : (dgC c d).cs = c.cs.setIfInBounds 2 (.int .i64 d) := by
  unfold dgC Cf.cs ccells
  rw [Array.append_assoc, Array.append_assoc, Array.append_assoc, Array.append_assoc]
  apply Array.ext'
  simp
end Go.Proofs.Ythldpnifodbheaa
namespace Go.Proofs.Ythldpnifodbheaa
open Go.RowKit Go.Lib
def nrB (cf : Cf) (k l : Fl) (n : Nat) : Bool := (List.range n).any fun s => decide (plN cf k s = plN cf l s)
theorem nrB_succ (cf : Cf) (k l : Fl) (n : Nat) : nrB cf k l (n + 1) = (nrB cf k l n || decide (plN cf k n = plN cf l n)) := by
  unfold nrB; rw [List.range_succ, List.any_append]; simp
theorem nrB_iff (cf : Cf) (k l : Fl) (n : Nat) : nrB cf k l n = true ↔ ∃ a, a < n ∧ plN cf k a = plN cf l a := by
  unfold nrB; rw [List.any_eq_true]
  exact ⟨fun ⟨a, h1, h2⟩ => ⟨a, List.mem_range.1 h1, of_decide_eq_true h2⟩, fun ⟨a, h1, h2⟩ => ⟨a, List.mem_range.2 h1, decide_eq_true h2⟩⟩
def tw1 (cf : Cf) (k l : Fl) : Bool := !decide (l = k) && nrB cf k l cf.st.toNat && decide (dgN cf k = dgN cf l)
def twL (cf : Cf) (k : Fl) (L : List Fl) : Bool := L.any (tw1 cf k)
theorem twL_step (cf : Cf) (k : Fl) (L : List Fl) (j : Nat) (h : j < L.length) : twL cf k (L.take (j + 1)) = (twL cf k (L.take j) || tw1 cf k (L.getD j k0)) := by
  unfold twL
  rw [List.take_add_one, List.any_append, List.getElem?_eq_getElem h, List.getD_eq_getElem?_getD, List.getElem?_eq_getElem h]
  simp
structure TwI (cf : Cf) (c : Nat → Option Se) (L : List Fl) : Prop where
  T : TI cf c
  vk : ∀ l ∈ L, vK l = true
  mem : ∀ x, memC cf c x → x.k ∈ L ∧ x.v = 1
  ex : ∀ l ∈ L, ∃ x, memC cf c x ∧ x.k = l
  cnt : cntC cf c = L.length
theorem TwI.none (cf : Cf) : TwI cf (fun _ => none) [] :=
  ⟨TI.none cf, fun _ h => (by cases h), fun x h => (by obtain ⟨q, _, h⟩ := h; cases h), fun _ h => (by cases h), by unfold cntC; rw [itF_none]; rfl⟩
section
variable {cf : Cf} {c : Nat → Option Se} (hok : okC cf = true) {L : List Fl} (hF : TwI cf c L) {k : Fl}
include hok hF
omit hok in
theorem tw_ok (hv : vK k = true) : (twF cf k 1 (itF c 0 (cf.st.toNat * cf.sz.toNat))).isSome = twL cf k L ∧ twF cf k 2 (itF c 0 (cf.st.toNat * cf.sz.toNat)) = none ∧
    ∀ w, twF cf k 1 (itF c 0 (cf.st.toNat * cf.sz.toNat)) = some w → dgN cf w = dgN cf k ∧ w ≠ k ∧ vK w = true ∧ w.Fit := by
  have hB : ∀ x, memC cf c x → (twB cf k 1 x = true ↔ tw1 cf k x.k = true) := fun x hx => by
    rw [twB_iff]
    unfold tw1
    simp only [Bool.and_eq_true, Bool.not_eq_true', decide_eq_false_iff_not, decide_eq_true_iff, nrB_iff]
    have hd := hF.T.mem_dg hx
    constructor
    · rintro ⟨a, b, -, -, -, d⟩; exact ⟨⟨a, d⟩, by rw [← b, hd]⟩
    · rintro ⟨⟨a, b⟩, d⟩; exact ⟨a, by rw [hd, d], (hF.mem x hx).2, hv, mem_vK hF.T hx, b⟩
  refine ⟨?_, ?_, fun w hw => ?_⟩
  · cases e : twF cf k 1 (itF c 0 (cf.st.toNat * cf.sz.toNat)) with
    | none =>
      have h := (twF_none_iff cf k 1 _).1 e
      symm
      show twL cf k L = false
      unfold twL
      rw [Bool.eq_false_iff]
      intro ha
      rw [List.any_eq_true] at ha
      obtain ⟨l, hl, h1⟩ := ha
      obtain ⟨x, hx, rfl⟩ := hF.ex l hl
      obtain ⟨y, hy, rfl⟩ := (itF_memC cf c x).1 hx
      have := h y hy
      rw [(hB _ hx).2 h1] at this
      cases this
    | some w =>
      obtain ⟨x, hx, h1, h2⟩ := twF_some cf k 1 _ w e
      have hm := (itF_memC cf c x.2).2 ⟨x, hx, rfl⟩
      symm
      show twL cf k L = true
      unfold twL
      rw [List.any_eq_true]
      exact ⟨x.2.k, (hF.mem _ hm).1, (hB _ hm).1 h1⟩
  · refine (twF_none_iff cf k 2 _).2 fun x hx => ?_
    have hm := (itF_memC cf c x.2).2 ⟨x, hx, rfl⟩
    cases e : twB cf k 2 x.2 with
    | false => rfl
    | true =>
      have := ((twB_iff cf k 2 x.2).1 e).2.2.1
      rw [(hF.mem _ hm).2] at this
      cases this
  · obtain ⟨x, hx, h1, h2⟩ := twF_some cf k 1 _ w hw
    have hm := (itF_memC cf c x.2).2 ⟨x, hx, rfl⟩
    obtain ⟨a, b, -, -⟩ := (twB_iff cf k 1 x.2).1 h1
    rw [← h2, ← hF.T.mem_dg hm]
    exact ⟨b, a, mem_vK hF.T hm, x.2.fit⟩
theorem tw_ins (hk : k.Fit) (hv : vK k = true) :
    (twL cf k L = true → insE cf c k 1 0 = 1 ∨ insE cf c k 1 0 = 6) ∧ (insE cf c k 1 0 = 0 → TwI cf (insC cf c k hk 1 0) (L ++ [k])) ∧ (insE cf c k 1 0 ≠ 0 → TwI cf (insC cf c k hk 1 0) L) := by
  refine ⟨fun h => ?_, fun h => ?_, fun h => ?_⟩
  · rw [← (tw_ok hF hv).1] at h
    have hr : rfE cf c k 1 0 = 1 ∨ rfE cf c k 1 0 = 6 := by
      unfold rfE
      split
      · exact .inl rfl
      · split
        · exact .inr rfl
        · exact .inl rfl
    unfold insE
    rcases hr with e | e <;> rw [e, if_neg (by decide)] <;> simp
  · obtain ⟨h0, R, hw⟩ := ins_was h
    obtain ⟨-, b, d, e⟩ := ins_spec hok hF.T hk h0 hw
    refine ⟨b, fun l hl => ?_, fun x hx => ?_, fun l hl => ?_, by rw [e, hF.cnt, List.length_append]; rfl⟩
    · rw [List.mem_append, List.mem_singleton] at hl
      rcases hl with hl | rfl
      · exact hF.vk l hl
      · exact hv
    · rcases (d x).1 hx with rfl | hx
      · exact ⟨by show k ∈ _; simp, rfl⟩
      · obtain ⟨a, b⟩ := hF.mem x hx
        exact ⟨by simp [a], b⟩
    · rw [List.mem_append, List.mem_singleton] at hl
      rcases hl with hl | rfl
      · obtain ⟨x, hx, e⟩ := hF.ex l hl
        exact ⟨x, (d x).2 (.inr hx), e⟩
      · exact ⟨_, (d _).2 (.inl rfl), rfl⟩
  · rw [(ins_not hk h).1]; exact hF
end
end Go.Proofs.Ythldpnifodbheaa
