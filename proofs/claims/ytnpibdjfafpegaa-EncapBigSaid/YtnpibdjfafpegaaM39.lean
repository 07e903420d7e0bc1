/- Texts that the walks of this seat lean on, put together. -/
import Derived.Test.YtnpibdjfafpegaaTk
import Derived.Test.YtnpibdjfafpegaaM31
import Derived.Test.YtnpibdjfafpegaaM32
import Derived.Test.YtnpibdjfafpegaaM38
namespace Go.Proofs.Ytnpibdjfafpegaa
open Go.RowKit
theorem vld_cut (D : List Nat) (hD : D.length = 16) (h : vldA false D = true) : D.take 4 ++ List.replicate 12 0 = D := by
  have hv := (vldA_spec.1 h).resolve_left (by decide)
  refine ext_getD _ _ 0 (by simp [hD]) fun i hi => ?_
  have hi : i < 16 := by simp [hD] at hi; omega
  have h4 : (D.take 4).length = 4 := by simp [hD]
  by_cases h1 : i < 4
  · rw [getDl _ _ _ (by omega), getD_take _ _ _ h1]
  · rw [getDr _ _ _ (by omega), hv i (by omega) hi, List.getD_eq_getElem?_getD, List.getElem?_replicate]
    split <;> rfl
theorem net_18 (zs : List Nat) (h : (net zs).2.2 = 0) (h18 : (net zs).1 = 18) : u2 zs 12 = 33024 := by
  by_cases h14 : zs.length < 14
  · rw [net_short _ h14] at h; cases h
  · by_cases hv : u2 zs 12 = 33024
    · exact hv
    · rw [net_bare _ h14 hv] at h18 h
      unfold netK at h18
      split at h18 <;> simp at h18
theorem kN_lt (v : Bool) : kN v < 65536 := by cases v <;> decide
theorem u2_bg (A X : List Nat) (k n : Nat) (hA : A.length = n) (hk : k < 65536) : u2 ((A ++ bg 2 k) ++ X) n = k := by
  rw [List.append_assoc]
  have h := u2_app A (bg 2 k ++ X) n 0 hA
  rw [Nat.add_zero] at h
  rw [h, bg2]
  show k / 256 % 256 * 256 + k % 256 = k
  omega
theorem netK_kN (n : Nat) (v : Bool) : netK n (kN v) = (n, kN v, 0) := by cases v <;> rfl
def wK (zs : List Nat) (v : Bool) : List Nat := zs.take (nN zs - 2) ++ bg 2 (kN v)
theorem wK_len (zs : List Nat) (v : Bool) (h : (net zs).2.2 = 0) : (wK zs v).length = nN zs := by
  obtain ⟨q1, q2, -⟩ := net_ok zs h
  unfold wK nN
  rw [List.length_append, List.length_take, bg_length]; omega
theorem net_with (zs : List Nat) (v : Bool) (X : List Nat) (h : (net zs).2.2 = 0) : net (wK zs v ++ X) = (nN zs, kN v, 0) := by
  obtain ⟨q1, q2, -⟩ := net_ok zs h
  have hl := wK_len zs v h
  have hlen : (wK zs v ++ X).length = nN zs + X.length := by rw [List.length_append, hl]
  have e2 : u2 (wK zs v ++ X) (nN zs - 2) = kN v := u2_bg _ _ _ _ (by rw [List.length_take]; unfold nN; omega) (kN_lt v)
  rcases q1 with q | q
  · have q' : nN zs = 14 := q
    rw [q'] at hlen e2 ⊢
    rw [net_bare _ (by omega) (by rw [e2]; cases v <;> decide), e2, netK_kN]
  · have q' : nN zs = 18 := q
    have e1 : u2 (wK zs v ++ X) 12 = 33024 := by
      rw [← net_18 zs h q]
      unfold u2 wK
      rw [q', getDl _ _ _ (by rw [List.length_append, List.length_take, bg_length]; omega), getDl _ _ _ (by rw [List.length_take]; omega), getDl _ _ _ (by rw [List.length_append, List.length_take, bg_length]; omega), getDl _ _ _ (by rw [List.length_take]; omega), getD_take _ _ _ (by omega), getD_take _ _ _ (by omega)]
    rw [q'] at hlen e2 ⊢
    rw [net_tag _ (by omega) e1 (by omega), e2, netK_kN]
theorem six_with (zs : List Nat) (v : Bool) (X : List Nat) (h : (net zs).2.2 = 0) : sixF (wK zs v ++ X) = v := by unfold sixF; rw [net_with _ _ _ h]; cases v <;> rfl
theorem pkt_with (zs : List Nat) (v : Bool) (X : List Nat) (h : (net zs).2.2 = 0) : pkt (wK zs v ++ X) = X := by unfold pkt; rw [net_with _ _ _ h]; exact drop_app _ _ _ (wK_len zs v h)
theorem kind_with (zs : List Nat) (h : (net zs).2.2 = 0) : (net zs).2.1 = kN (sixF zs) := by
  obtain ⟨-, -, q⟩ := net_ok zs h
  unfold sixF
  rcases q with q | q <;> rw [q] <;> rfl
theorem two_bg (Z : List Nat) (k n : Nat) (hb : ∀ c ∈ Z, c < 256) (hl : n + 2 ≤ Z.length) (h : u2 Z n = k) : (Z.drop n).take 2 = bg 2 k := by
  have h0 := getD_lt Z hb n
  have h1 := getD_lt Z hb (n + 1)
  have e : (Z.drop n).take 2 = [Z.getD n 0, Z.getD (n + 1) 0] := by
    refine ext_getD _ _ 0 (by simp; omega) fun i hi => ?_
    have hi : i < 2 := by simp at hi; omega
    rw [getD_take _ _ _ hi, getD_dr]
    rcases (by omega : i = 0 ∨ i = 1) with rfl | rfl <;> rfl
  unfold u2 at h
  rw [e, bg2]
  congr 1
  · omega
  · congr 1; omega
theorem wK_same (zs : List Nat) (hb : ∀ c ∈ zs, c < 256) (h : (net zs).2.2 = 0) : wK zs (sixF zs) = zs.take (nN zs) := by
  obtain ⟨n, h1, h2, h3, h4⟩ := net_at zs h
  have q : nN zs = n + 2 := h1
  unfold wK
  rw [q, Nat.add_sub_cancel, List.take_add, two_bg zs _ n hb h2 (h4.trans (kind_with zs h))]
theorem wK_again (zs X : List Nat) (v u : Bool) (h : (net zs).2.2 = 0) : wK (wK zs v ++ X) u = wK zs u := by
  have e : nN (wK zs v ++ X) = nN zs := by unfold nN; rw [net_with _ _ _ h]; rfl
  have hl := wK_len zs v h
  obtain ⟨q1, q2, -⟩ := net_ok zs h
  have hn : nN zs = (net zs).1 := rfl
  show (wK zs v ++ X).take (nN (wK zs v ++ X) - 2) ++ bg 2 (kN u) = _
  rw [e, List.take_append_of_le_length (by omega)]
  unfold wK
  rw [List.take_append_of_le_length (by rw [List.length_take]; omega), List.take_take, Nat.min_self]
structure Says (v : Bool) (O D : List Nat) (p n : Nat) (X R : List Nat) : Prop where
  a : lA v X = O
  b : lB v X = D
  pr : fP v X = p
  t : X.take (hH v) = headB v O D p n
  d : X.drop (hH v) = R
theorem says (v : Bool) (O D : List Nat) (p n : Nat) (R : List Nat) (hO : O.length = 16) (hD : D.length = 16) (hvO : vldA v O = true) (hvD : vldA v D = true) : Says v O D p n (headB v O D p n ++ R) R := by
  have hl := headB_len v O D p n hO hD
  have hl : (headB v O D p n).length = hH v := hl
  refine ⟨?_, ?_, ?_, take_app _ _ _ hl, drop_app _ _ _ hl⟩
  · cases v with
    | true => exact mk6_src O D R p n hO
    | false =>
      have e := vld_cut O hO hvO
      obtain ⟨s0, s1, s2, s3, hs⟩ := list4 (O.take 4) (by simp [hO])
      obtain ⟨d0, d1, d2, d3, hd⟩ := list4 (D.take 4) (by simp [hD])
      obtain ⟨x, y, hm⟩ := mk4_lit s0 s1 s2 s3 d0 d1 d2 d3 p n
      show lA false (mk4 (O.take 4) (D.take 4) p n ++ R) = O
      refine Eq.trans ?_ e
      rw [hs, hd, hm]
      rfl
  · cases v with
    | true => exact mk6_dst O D R p n hO hD
    | false =>
      have e := vld_cut D hD hvD
      obtain ⟨s0, s1, s2, s3, hs⟩ := list4 (O.take 4) (by simp [hO])
      obtain ⟨d0, d1, d2, d3, hd⟩ := list4 (D.take 4) (by simp [hD])
      obtain ⟨x, y, hm⟩ := mk4_lit s0 s1 s2 s3 d0 d1 d2 d3 p n
      show lB false (mk4 (O.take 4) (D.take 4) p n ++ R) = D
      refine Eq.trans ?_ e
      rw [hs, hd, hm]
      rfl
  · cases v with
    | true =>
      show (mk6 O D p n ++ R).getD 6 0 = p
      rw [mk6_cons]; rfl
    | false =>
      obtain ⟨s0, s1, s2, s3, hs⟩ := list4 (O.take 4) (by simp [hO])
      obtain ⟨d0, d1, d2, d3, hd⟩ := list4 (D.take 4) (by simp [hD])
      obtain ⟨x, y, hm⟩ := mk4_lit s0 s1 s2 s3 d0 d1 d2 d3 p n
      show (mk4 (O.take 4) (D.take 4) p n ++ R).getD 9 0 = p
      rw [hs, hd, hm]; rfl
theorem hdM_yes (v : Bool) (O D : List Nat) (p n : Nat) (h : n ≤ capB v) : hdM v O D p n = headB v O D p n := if_pos h
theorem opn_made (v : Bool) (O D : List Nat) (p : Nat) (R : List Nat) (hO : O.length = 16) (hD : D.length = 16) (hvO : vldA v O = true) (hvD : vldA v D = true) (hn : R.length ≤ capB v) : opn v (headB v O D p R.length ++ R) = true := by
  have hS := says v O D p R.length R hO hD hvO hvD
  have hl : (headB v O D p R.length).length = hH v := headB_len v O D p _ hO hD
  have hx : (headB v O D p R.length ++ R).length - hH v = R.length := by rw [List.length_append, hl, Nat.add_sub_cancel_left]
  unfold opn
  rw [hS.a, hS.b, hS.pr, hS.t, hx, hdM_yes _ _ _ _ _ hn, decide_eq_true (by rw [List.length_append]; omega), decide_eq_true hn, decide_eq_true rfl]
  rfl
theorem vers (zs : List Nat) (h : rr zs = 0) : (pkt zs).getD 0 0 / 16 = if sixF zs then 6 else 4 := by
  obtain ⟨-, h2, -⟩ := rr_yes zs h
  cases hv : sixF zs with
  | true =>
    rw [hv] at h2
    exact (f6_yes _ h2).2.1
  | false =>
    rw [hv] at h2
    exact (ff_yes _ h2).2.1
structure Was (zs : List Nat) (v : Bool) (O D F : List Nat) : Prop where
  net : net F = (nN zs, kN v, 0)
  six : sixF F = v
  pk : pkt F = headB v O D (prN (sixF zs)) (nE zs - nN zs) ++ (pkt zs).take (nE zs - nN zs)
  len : F.length = inS zs v
  ok : outOk F = true
  a : outA F = cellsA v D
  l : outL F = zs.take (nE zs)
  says : Says v O D (prN (sixF zs)) (nE zs - nN zs) (pkt F) ((pkt zs).take (nE zs - nN zs))
  ql : ((pkt zs).take (nE zs - nN zs)).length = nE zs - nN zs
theorem was (zs : List Nat) (v : Bool) (O D : List Nat) (hb : ∀ c ∈ zs, c < 256) (h : rr zs = 0) (hO : O.length = 16) (hD : D.length = 16) (hvO : vldA v O = true) (hvD : vldA v D = true) (hs : inS zs v ≤ 65535) : Was zs v O D (inn zs v O D) := by
  have hF := frame9 zs h
  have q1 := hF.hd0.low
  have q2 := hF.hd0.mid
  have q3 := hF.eL
  have q4 := hF.pl
  have eE : nE zs = nN zs + fL (sixF zs) (pkt zs) := rfl
  have eN : nN zs = (Go.Proofs.Ytnpibdjfafpegaa.net zs).1 := rfl
  have hql : ((pkt zs).take (nE zs - nN zs)).length = nE zs - nN zs := by rw [List.length_take]; omega
  have hi : inn zs v O D = wK zs v ++ (headB v O D (prN (sixF zs)) (nE zs - nN zs) ++ (pkt zs).take (nE zs - nN zs)) := rfl
  have hl : (headB v O D (prN (sixF zs)) (nE zs - nN zs)).length = hH v := headB_len v O D _ _ hO hD
  have hnet := net_with zs v (headB v O D (prN (sixF zs)) (nE zs - nN zs) ++ (pkt zs).take (nE zs - nN zs)) hF.net0
  have hsix := six_with zs v (headB v O D (prN (sixF zs)) (nE zs - nN zs) ++ (pkt zs).take (nE zs - nN zs)) hF.net0
  have hpk := pkt_with zs v (headB v O D (prN (sixF zs)) (nE zs - nN zs) ++ (pkt zs).take (nE zs - nN zs)) hF.net0
  have hag := fun u => wK_again zs (headB v O D (prN (sixF zs)) (nE zs - nN zs) ++ (pkt zs).take (nE zs - nN zs)) v u hF.net0
  have hsa := says v O D (prN (sixF zs)) (nE zs - nN zs) ((pkt zs).take (nE zs - nN zs)) hO hD hvO hvD
  have hcap : nE zs - nN zs ≤ capB v := by
    unfold inS at hs
    cases v
    · have : hH false = 20 := rfl
      have : capB false = 65515 := rfl
      omega
    · have : capB true = 65535 := rfl
      omega
  have hopn := opn_made v O D (prN (sixF zs)) ((pkt zs).take (nE zs - nN zs)) hO hD hvO hvD (by rw [hql]; exact hcap)
  rw [hql] at hopn
  have hin : inP (inn zs v O D) = (pkt zs).take (nE zs - nN zs) := by unfold inP; rw [hi, hpk, hsix]; exact hsa.d
  have hne : (pkt zs).take (nE zs - nN zs) ≠ [] := List.length_pos_iff.1 (by rw [hql]; omega)
  have hv0 := vers zs h
  have hpr : decide (prN (sixF zs) = 41) = sixF zs := by cases sixF zs <;> rfl
  have hhl : hlB ((pkt zs).take (nE zs - nN zs)) (prN (sixF zs)) = true := by
    unfold hlB
    rw [decide_eq_true_iff]
    refine ⟨hne, ?_⟩
    rw [getD_take _ _ _ (by omega), hv0]
    cases sixF zs
    · exact .inl ⟨rfl, rfl⟩
    · exact .inr ⟨rfl, rfl⟩
  have hok : outOk (inn zs v O D) = true := by
    unfold outOk
    rw [hin, hi, hnet, hsix, hpk, hopn, hsa.pr, hhl]; rfl
  refine ⟨hnet, hsix, hpk, ?_, hok, ?_, ?_, ?_, hql⟩
  · rw [hi, List.length_append, List.length_append, wK_len _ _ hF.net0, hl, hql]; unfold inS; omega
  · unfold outA; rw [if_pos hok, hi, hsix, hpk, hsa.b]
  · have hw : (inn zs v O D).take ((Go.Proofs.Ytnpibdjfafpegaa.net (inn zs v O D)).1 - 2) ++ bg 2 (kN (sixF zs)) = wK zs (sixF zs) := hag (sixF zs)
    unfold outL
    rw [if_pos hok, hin]
    rw [hi, hsix, hpk, hsa.pr, hpr, ← hi, hw, wK_same zs hb hF.net0]
    show zs.take (nN zs) ++ (zs.drop (nN zs)).take (nE zs - nN zs) = _
    rw [← List.take_add]
    congr 1
    omega
  · rw [hi, hpk]; exact hsa
end Go.Proofs.Ytnpibdjfafpegaa
