/- Texts that the walks of this seat lean on, put together. -/
import Derived.Test.YtnpibdjfafpegaaTk
import Derived.Test.YtnpibdjfafpegaaM37
import Derived.Test.YtnpibdjfafpegaaM42
namespace Go.Proofs.Ytnpibdjfafpegaa
open Go.RowKit
theorem headB_inj (v : Bool) (O D : List Nat) (p a b : Nat) (hO : O.length = 16) (hD : D.length = 16) (ha : a ≤ capB v) (hb : b ≤ capB v) (h : headB v O D p a = headB v O D p b) : a = b := by
  cases v with
  | true =>
    have h : mk6 O D p a = mk6 O D p b := h
    have e := mk6_u2 O D [] p a ha
    rw [h, mk6_u2 O D [] p b hb] at e
    exact e.symm
  | false =>
    obtain ⟨s0, s1, s2, s3, e1⟩ := list4 (O.take 4) (by simp [hO])
    obtain ⟨d0, d1, d2, d3, e2⟩ := list4 (D.take 4) (by simp [hD])
    obtain ⟨x, y, m1⟩ := mk4_lit s0 s1 s2 s3 d0 d1 d2 d3 p a
    obtain ⟨x', y', m2⟩ := mk4_lit s0 s1 s2 s3 d0 d1 d2 d3 p b
    have h : mk4 (O.take 4) (D.take 4) p a = mk4 (O.take 4) (D.take 4) p b := h
    rw [e1, e2, m1, m2] at h
    simp only [List.cons.injEq] at h
    have ha : a ≤ 65515 := ha
    have hb : b ≤ 65515 := hb
    obtain ⟨-, -, h1, h2, -⟩ := h
    omega
theorem hH_pos (v : Bool) : 20 ≤ hH v := by cases v <;> decide
theorem cap_small (v : Bool) : 65515 ≤ capB v := by cases v <;> decide
theorem odd_more {zs : List Nat} {v : Bool} {O D : List Nat} (Z : List Nat) (h : rr zs = 0) (hO : O.length = 16) (hD : D.length = 16) (hvO : vldA v O = true) (hvD : vldA v D = true) (hs : zs.length ≤ 60000) (hZ : 0 < Z.length) (hZ2 : Z.length ≤ 100) : outOk (inn zs v O D ++ Z) = false := by
  have hF := frame9 zs h
  have q3 := hF.eL
  have q4 := hF.pl
  have eN : nN zs = (net zs).1 := rfl
  have eE : nE zs = nN zs + fL (sixF zs) (pkt zs) := rfl
  have hql : ((pkt zs).take (nE zs - nN zs)).length = nE zs - nN zs := by rw [List.length_take]; omega
  have hi : inn zs v O D ++ Z = wK zs v ++ (headB v O D (prN (sixF zs)) (nE zs - nN zs) ++ ((pkt zs).take (nE zs - nN zs) ++ Z)) := by unfold inn wK; simp only [List.append_assoc]
  have hsa := says v O D (prN (sixF zs)) (nE zs - nN zs) ((pkt zs).take (nE zs - nN zs) ++ Z) hO hD hvO hvD
  have hl : (headB v O D (prN (sixF zs)) (nE zs - nN zs)).length = hH v := headB_len v O D _ _ hO hD
  have hn : opn v (headB v O D (prN (sixF zs)) (nE zs - nN zs) ++ ((pkt zs).take (nE zs - nN zs) ++ Z)) = false := by
    have hx : (headB v O D (prN (sixF zs)) (nE zs - nN zs) ++ ((pkt zs).take (nE zs - nN zs) ++ Z)).length - hH v = nE zs - nN zs + Z.length := by rw [List.length_append, List.length_append, hl, hql, Nat.add_sub_cancel_left]
    have hc := cap_small v
    unfold opn
    rw [hsa.a, hsa.b, hsa.pr, hsa.t, hx]
    have hne : decide (hdM v O D (prN (sixF zs)) (nE zs - nN zs + Z.length) = headB v O D (prN (sixF zs)) (nE zs - nN zs)) = false := by
      rw [decide_eq_false_iff_not, hdM_yes _ _ _ _ _ (by omega)]
      intro q
      have := headB_inj v O D _ _ _ hO hD (by omega) (by omega) q
      omega
    rw [hne, Bool.and_false, Bool.and_false]
  unfold outOk
  rw [hi, six_with _ _ _ hF.net0, pkt_with _ _ _ hF.net0, hn, Bool.false_and, Bool.and_false]
theorem set_ne (H : List Nat) (j y : Nat) (hj : j < H.length) (hy : y ≠ H.getD j 0) : H ≠ H.set j y := by
  intro q
  have e : (H.set j y).getD j 0 = y := by rw [List.getD_eq_getElem?_getD, List.getElem?_set_self hj]; rfl
  rw [← q] at e
  exact hy e.symm
theorem getD_set_ne (H : List Nat) (j k y : Nat) (h : j ≠ k) : (H.set j y).getD k 0 = H.getD k 0 := by
  rw [List.getD_eq_getElem?_getD, List.getElem?_set_ne h, ← List.getD_eq_getElem?_getD]
theorem set_says {v : Bool} {O D : List Nat} {p n : Nat} {X R : List Nat} (h : Says v O D p n X R) (j y : Nat) (hj : j < 8) :
    lA v (X.set j y) = O ∧ lB v (X.set j y) = D ∧ fP v (X.set j y) = (if v = true ∧ j = 6 then (X.set 6 y).getD 6 0 else p) ∧ (X.set j y).take (hH v) = (headB v O D p n).set j y ∧ (X.set j y).drop (hH v) = R := by
  have hd : ∀ k, 8 ≤ k → (X.set j y).drop k = X.drop k := fun k hk => List.drop_set_of_lt (by omega)
  have ht : (X.set j y).take (hH v) = (headB v O D p n).set j y := by rw [← h.t, List.take_set]
  have hr : (X.set j y).drop (hH v) = R := by rw [hd _ (by have := hH_pos v; omega)]; exact h.d
  refine ⟨?_, ?_, ?_, ht, hr⟩
  · rw [← h.a]
    cases v
    · unfold lA; rw [if_neg (by decide), if_neg (by decide), hd 12 (by omega)]
    · unfold lA; rw [if_pos rfl, if_pos rfl, hd 8 (by omega)]
  · rw [← h.b]
    cases v
    · unfold lB; rw [if_neg (by decide), if_neg (by decide), hd 16 (by omega)]
    · unfold lB; rw [if_pos rfl, if_pos rfl, hd 24 (by omega)]
  · rw [← h.pr]
    cases v
    · rw [if_neg (by simp)]
      show (X.set j y).getD 9 0 = X.getD 9 0
      exact getD_set_ne _ _ _ _ (by omega)
    · by_cases h6 : j = 6
      · subst h6; rw [if_pos ⟨rfl, rfl⟩]; rfl
      · rw [if_neg (by simp [h6])]
        show (X.set j y).getD 6 0 = X.getD 6 0
        exact getD_set_ne _ _ _ _ h6
theorem odd_turn {zs : List Nat} {v : Bool} {O D : List Nat} (j b : Nat) (h : rr zs = 0) (hO : O.length = 16) (hD : D.length = 16) (hbO : ∀ c ∈ O, c < 256) (hbD : ∀ c ∈ D, c < 256) (hvO : vldA v O = true) (hvD : vldA v D = true) (hs : zs.length ≤ 60000) (hn : nN zs = 14) (hj : j < 8) (hb8 : b < 8) : outOk (turn (inn zs v O D) (14 + j) b) = false := by
  have hF := frame9 zs h
  have q1 := hF.hd0.low
  have q2 := hF.hd0.mid
  have q3 := hF.eL
  have q4 := hF.pl
  have eN : nN zs = (net zs).1 := rfl
  have eE : nE zs = nN zs + fL (sixF zs) (pkt zs) := rfl
  have hql : ((pkt zs).take (nE zs - nN zs)).length = nE zs - nN zs := by rw [List.length_take]; omega
  have hwl := wK_len zs v hF.net0
  rw [hn] at hwl
  have hv0 := vers zs h
  have hq0 : ((pkt zs).take (nE zs - nN zs)).getD 0 0 = (pkt zs).getD 0 0 := getD_take _ _ _ (by omega)
  have hsa := says v O D (prN (sixF zs)) (nE zs - nN zs) ((pkt zs).take (nE zs - nN zs)) hO hD hvO hvD
  have hl : (headB v O D (prN (sixF zs)) (nE zs - nN zs)).length = hH v := headB_len v O D _ _ hO hD
  have h20 := hH_pos v
  have hHb := headB_lt v O D (prN (sixF zs)) (nE zs - nN zs) hbO hbD (by unfold prN; split <;> decide)
  have hcap := cap_small v
  obtain ⟨X, hX⟩ : ∃ X, X = headB v O D (prN (sixF zs)) (nE zs - nN zs) ++ (pkt zs).take (nE zs - nN zs) := ⟨_, rfl⟩
  have hlX : X.length = hH v + (nE zs - nN zs) := by rw [hX, List.length_append, hl, hql]
  have hgX : X.getD j 0 = (headB v O D (prN (sixF zs)) (nE zs - nN zs)).getD j 0 := by rw [hX]; exact getDl _ _ _ (by omega)
  have hi : inn zs v O D = wK zs v ++ X := by rw [hX]; rfl
  rw [← hX] at hsa
  obtain ⟨y, hy⟩ : ∃ y, y = (inn zs v O D).getD (14 + j) 0 ^^^ 2 ^ b := ⟨_, rfl⟩
  have hg : (inn zs v O D).getD (14 + j) 0 = X.getD j 0 := by rw [hi]; exact getD_app _ _ _ _ hwl
  have hyn : y ≠ X.getD j 0 := by
    rw [hg] at hy
    have hx := xor_bit (X.getD j 0) b (by rw [hgX]; exact getD_lt _ hHb j) hb8
    obtain ⟨p1, -⟩ := two_pow b hb8
    omega
  have ht : turn (inn zs v O D) (14 + j) b = wK zs v ++ X.set j y := by
    unfold turn
    rw [← hy, hi, set_right _ _ _ _ (by omega), hwl, Nat.add_sub_cancel_left]
  obtain ⟨s1, s2, s3, s4, s5⟩ := set_says hsa j y hj
  have hin : inP (wK zs v ++ X.set j y) = (pkt zs).take (nE zs - nN zs) := by unfold inP; rw [six_with _ _ _ hF.net0, pkt_with _ _ _ hF.net0]; exact s5
  unfold outOk
  rw [ht, hin, six_with _ _ _ hF.net0, pkt_with _ _ _ hF.net0, s3]
  by_cases hc : v = true ∧ j = 6
  · rw [if_pos hc]
    have e : (X.set 6 y).getD 6 0 = y := by rw [List.getD_eq_getElem?_getD, List.getElem?_set_self (by omega)]; rfl
    have hp : X.getD 6 0 = prN (sixF zs) := by
      have := hsa.pr
      rw [hc.1] at this
      exact this
    have hy6 : y ≠ prN (sixF zs) := by rw [← hp, ← hc.2]; exact hyn
    have hf : hlB ((pkt zs).take (nE zs - nN zs)) y = false := by
      unfold hlB
      rw [decide_eq_false_iff_not, hq0, hv0]
      rintro ⟨-, ⟨k1, k2⟩ | ⟨k1, k2⟩⟩
      · cases hx : sixF zs
        · rw [hx] at hy6; exact hy6 k1
        · rw [hx] at k2; cases k2
      · cases hx : sixF zs
        · rw [hx] at k2; cases k2
        · rw [hx] at hy6; exact hy6 k1
    rw [e, hf, Bool.and_false, Bool.and_false]
  · rw [if_neg hc]
    have hf : opn v (X.set j y) = false := by
      unfold opn
      rw [s1, s2, s3, if_neg hc, s4, List.length_set, hlX, Nat.add_sub_cancel_left, hdM_yes _ _ _ _ _ (by omega)]
      have hne := set_ne (headB v O D (prN (sixF zs)) (nE zs - nN zs)) j y (by omega) (by rw [← hgX]; exact hyn)
      rw [decide_eq_false hne, Bool.and_false, Bool.and_false]
    rw [hf, Bool.false_and, Bool.and_false]
end Go.Proofs.Ytnpibdjfafpegaa
