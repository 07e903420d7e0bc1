/- Texts that the walks of this seat lean on, put together. -/
import Derived.Test.YthionipmohbnhaaTk
import Derived.Test.YthionipmohbnhaaM06
import Derived.Test.YthionipmohbnhaaM07
import Derived.Test.YthionipmohbnhaaM19
namespace Go.Proofs.Ythionipmohbnhaa
open Go.RowKit
theorem two_255 (a b : Nat) (ha : a < 256) (hb : b < 256) (h : (a * 256 + b) % 65535 = 0) : a % 255 = 0 ∧ b % 255 = 0 := by
  have : a * 256 + b = 0 ∨ a * 256 + b = 65535 := by omega
  rcases this with e | e
  · have h1 : a = 0 := by omega
    have h2 : b = 0 := by omega
    subst h1 h2; exact ⟨rfl, rfl⟩
  · have h1 : a = 255 := by omega
    have h2 : b = 255 := by omega
    subst h1 h2; exact ⟨rfl, rfl⟩
end Go.Proofs.Ythionipmohbnhaa
namespace Go.Proofs.Ythionipmohbnhaa
open Go.RowKit
theorem word_two (C E : List Nat) (k : Nat) (hl : C.length = E.length) (he : k % 2 = 0) (hk : k + 2 ≤ C.length) (bC : ∀ c ∈ C, c < 256) (bE : ∀ c ∈ E, c < 256)
    (hg : ∀ i, i ≠ k → i ≠ k + 1 → C.getD i 0 = E.getD i 0) (hs : wsp 0 C % 65535 = wsp 0 E % 65535) (i : Nat) :
    C.getD i 0 = E.getD i 0 ∨ ((i = k ∨ i = k + 1) ∧ C.getD i 0 % 255 = 0 ∧ E.getD i 0 % 255 = 0) := by
  have xa := getD_lt C bC k
  have xb := getD_lt C bC (k + 1)
  have ya := getD_lt E bE k
  have yb := getD_lt E bE (k + 1)
  have hcl := u2_lt C k bC
  have hol := u2_lt E k bE
  have hbl := bg_length 2 (u2 C k)
  have hE : C = ov E (bg 2 (u2 C k)) k := by
    refine ext_getD _ _ 0 (by rw [ov_length _ _ _ (by omega)]; omega) fun j hj => ?_
    rw [ov_get _ _ _ _ (by omega), hbl, bg2]
    by_cases q3 : j = k
    · subst q3
      rw [if_pos (by omega), Nat.sub_self]
      show C.getD j 0 = u2 C j / 256 % 256
      unfold u2; omega
    · by_cases q4 : j = k + 1
      · subst q4
        rw [if_pos (by omega), show k + 1 - k = 1 by omega]
        show C.getD (k + 1) 0 = u2 C k % 256
        unfold u2; omega
      · rw [if_neg (by omega)]; exact hg j q3 q4
  have hwsp := ov_wsp E (bg 2 (u2 C k)) k he (by omega) (by omega)
  rw [hbl, wsp_two_at E k (by omega), wsp_bg _ hcl, ← hE] at hwsp
  have hc : u2 C k % 65535 = u2 E k % 65535 := by omega
  have hcases : u2 C k = u2 E k ∨ (u2 C k % 65535 = 0 ∧ u2 E k % 65535 = 0) := by omega
  by_cases q3 : i = k
  · subst q3
    unfold u2 at hcases
    rcases hcases with q | ⟨q1, q2⟩
    · left; omega
    · right; exact ⟨.inl rfl, (two_255 _ _ xa xb q1).1, (two_255 _ _ ya yb q2).1⟩
  · by_cases q4 : i = k + 1
    · subst q4
      unfold u2 at hcases
      rcases hcases with q | ⟨q1, q2⟩
      · left; omega
      · right; exact ⟨.inr rfl, (two_255 _ _ xa xb q1).2, (two_255 _ _ ya yb q2).2⟩
    · left; exact hg i q3 q4
theorem lB_at (v : Bool) (T D : List Nat) (h : lB v T = D) (h2 : fhr v T = 0) (k : Nat) (hk : (v = true ∧ 24 ≤ k ∧ k < 40) ∨ (v = false ∧ 16 ≤ k ∧ k < 20)) : T.getD k 0 = D.getD (k - if v then 24 else 16) 0 := by
  rw [← h]
  rcases hk with ⟨rfl, a, b⟩ | ⟨rfl, a, b⟩
  · show _ = ((T.drop 24).take 16).getD (k - 24) 0
    rw [getD_take _ _ _ (by omega), getD_dr]; congr 1; omega
  · show _ = ((T.drop 16).take 4 ++ _).getD (k - 16) 0
    obtain ⟨h20, -⟩ := ff_yes T h2
    rw [getDl _ _ _ (by rw [List.length_take, List.length_drop]; omega), getD_take _ _ _ (by omega), getD_dr]; congr 1; omega
theorem fl_ported {p : Nat} {zs : List Nat} {tp : Nat} {v : Bool} {F D : List Nat} (P : Ported p zs tp v F D) : fl p (prt p zs tp v F D) = fl p zs := by
  unfold fl
  split
  · rename_i h6
    exact P.get 13 (by omega) (by omega) (by rw [h6]; simp [sAt]) (by rw [h6]; simp [sAt])
  · rfl
theorem u2_two {A B : List Nat} (hA : ∀ c ∈ A, c < 256) (hB : ∀ c ∈ B, c < 256) (h : u2 A 2 = u2 B 2) : A.getD 2 0 = B.getD 2 0 ∧ A.getD 3 0 = B.getD 3 0 := by
  have a2 := getD_lt A hA 2
  have a3 := getD_lt A hA 3
  have b2 := getD_lt B hB 2
  have b3 := getD_lt B hB 3
  have h : A.getD 2 0 * 256 + A.getD 3 0 = B.getD 2 0 * 256 + B.getD 3 0 := h
  omega
theorem ck_nil {Z : List Nat} (h : ck Z = 0) : wsp 0 Z % 65535 = 0 := by
  have := ck_mod Z
  rw [h] at this
  simpa using this
structure Twice (zs D1 : List Nat) (t1 : Nat) (D2 : List Nat) (t2 : Nat) (O Y Z : List Nat) : Prop where
  rO : rr O = 0
  bO : ∀ c ∈ O, c < 256
  lO : O.length = zs.length
  sO : sixF O = sixF zs
  vw : vw Y = vw Z
  len : Y.length = Z.length
  get : ∀ i, Y.getD i 0 = Z.getD i 0 ∨ ((i = nN zs + 10 ∨ i = nN zs + 11 ∨ i = nS zs + sAt (fP (sixF zs) (pkt zs)) ∨ i = nS zs + sAt (fP (sixF zs) (pkt zs)) + 1) ∧ Y.getD i 0 % 255 = 0 ∧ Z.getD i 0 % 255 = 0)
theorem twice (zs D1 : List Nat) (t1 : Nat) (D2 : List Nat) (t2 : Nat) (hb : ∀ c ∈ zs, c < 256) (h : rr zs = 0) (l1 : D1.length = 16) (b1 : ∀ c ∈ D1, c < 256) (v1 : vldA (sixF zs) D1 = true) (h1 : t1 < 65536)
    (l2 : D2.length = 16) (b2 : ∀ c ∈ D2, c < 256) (v2 : vldA (sixF zs) D2 = true) (h2 : t2 < 65536) (h0 : t2 ≠ 0) : Twice zs D1 t1 D2 t2 (to9 zs D1 t1) (to9 (to9 zs D1 t1) D2 t2) (to9 zs D2 t2) := by
  have hF := frame9 zs h
  have g1 := gone9 zs D1 t1 hb h l1 b1 v1 h1
  have gz := gone9 zs D2 t2 hb h l2 b2 v2 h2
  have P1 := sg9_ported zs D1 t1 hb h l1 h1
  have PZ := sg9_ported zs D2 t2 hb h l2 h2
  have G1 := gone4 (sixF zs) (pkt zs) D1 (pkt_lt zs hb) hF.hr l1 v1
  have GZ := gone4 (sixF zs) (pkt zs) D2 (pkt_lt zs hb) hF.hr l2 v2
  have q2 := hF.hd0.mid
  have q3 := hF.hd0.high
  generalize hO : to9 zs D1 t1 = O at *
  have v2' : vldA (sixF O) D2 = true := by rw [g1.six]; exact v2
  have hFO := frame9 O g1.rr0
  have gy := gone9 O D2 t2 g1.lt g1.rr0 l2 b2 v2' h2
  have PY := sg9_ported O D2 t2 g1.lt g1.rr0 l2 h2
  have GY := gone4 (sixF O) (pkt O) D2 (pkt_lt O g1.lt) hFO.hr l2 v2'
  rw [g1.six] at GY
  have hp1 : pt9 O t2 = t2 := if_neg h0
  have hp2 : pt9 zs t2 = t2 := if_neg h0
  have hFOr := hFO.hr
  rw [g1.six] at hFOr
  rw [g1.six, g1.sP, g1.sB, hp1, g1.sg] at PY
  rw [hp2] at PZ
  have hyv := gy.vw1
  rw [g1.six, g1.pN, g1.pS, g1.pE, g1.sP, g1.sA, g1.sg, hp1, show u2 (sg9 zs D1 t1) 0 = u2 (sgm zs) 0 from P1.u0, show fl (fP (sixF zs) (pkt zs)) (sg9 zs D1 t1) = fl (fP (sixF zs) (pkt zs)) (sgm zs) from fl_ported P1] at hyv
  have hzv := gz.vw1
  rw [hp2] at hzv
  have eY : sg9 O D2 t2 = prt (fP (sixF zs) (pkt zs)) (sg9 zs D1 t1) t2 (sixF zs) D1 D2 := by
    show prt (fP (sixF O) (pkt O)) (sgm O) (pt9 O t2) (sixF O) (lB (sixF O) (pkt O)) D2 = _
    rw [g1.six, g1.sP, g1.sB, hp1, g1.sg]
  have eZ : sg9 zs D2 t2 = prt (fP (sixF zs) (pkt zs)) (sgm zs) t2 (sixF zs) (lB (sixF zs) (pkt zs)) D2 := by
    show prt _ _ (pt9 zs t2) _ _ _ = _
    rw [hp2]
  have eN : nN zs = (net zs).1 := rfl
  have eS : nS zs = (net zs).1 + fS (sixF zs) (pkt zs) := rfl
  have eE : nE zs = (net zs).1 + fL (sixF zs) (pkt zs) := rfl
  have hsl : (sgm zs).length = fL (sixF zs) (pkt zs) - fS (sixF zs) (pkt zs) := hF.sl
  refine ⟨g1.rr0, g1.lt, g1.len, g1.six, by rw [hyv, hzv], by rw [gy.len, gz.len, g1.len], fun i => ?_⟩
  by_cases ho : i < nN zs ∨ nE zs ≤ i
  · left
    rw [gy.off i (by rw [g1.pN, g1.pE]; exact ho), gz.off i ho, g1.off i ho]
  · by_cases hh : i < nS zs
    · obtain ⟨k, rfl⟩ : ∃ k, i = nN zs + k := ⟨i - nN zs, by omega⟩
      have hk : k < fS (sixF zs) (pkt zs) := by omega
      have y1 := gy.hd k (by rw [g1.six, g1.sS]; exact hk)
      rw [g1.pN, g1.six] at y1
      have z1 := gz.hd k hk
      have o1 := g1.hd k hk
      have e2 : O.getD (nN zs + k) 0 = (pkt O).getD k 0 := by rw [← g1.pN]; exact (getD_dr O (net O).1 k).symm
      rw [e2] at o1
      rw [y1, z1]
      by_cases ha : (sixF zs = true ∧ 24 ≤ k ∧ k < 40) ∨ (sixF zs = false ∧ 16 ≤ k ∧ k < 20)
      · left
        rw [lB_at _ _ _ GY.b GY.head k ha, lB_at _ _ _ GZ.b GZ.head k ha]
      · by_cases hc : sixF zs = false ∧ (k = 10 ∨ k = 11)
        · obtain ⟨hc, hc2⟩ := hc
          rw [hc] at hk ha o1 GY GZ G1 hFOr q2 q3 ⊢
          have hfz : ff (pkt zs) = 0 := by have := hF.hr; rwa [hc] at this
          have fy := ff_yes _ (show ff (dst4 (pkt O) (D2.take 4)) = 0 from GY.head)
          have fz := ff_yes _ (show ff (dst4 (pkt zs) (D2.take 4)) = 0 from GZ.head)
          have sy : hs (dst4 (pkt O) (D2.take 4)) = fS false (pkt zs) := by
            have a : fS false (dsX false (pkt O) D2) = fS false (pkt O) := GY.s
            have b := g1.sS
            rw [hc] at b
            exact a.trans b
          have sz : hs (dst4 (pkt zs) (D2.take 4)) = fS false (pkt zs) := GZ.s
          have h20 : 20 ≤ fS false (pkt zs) := by rw [← sz]; exact fz.2.2.1
          have ly : fS false (pkt zs) ≤ (dst4 (pkt O) (D2.take 4)).length := by have := fy.2.2.2.1; have := fy.2.2.2.2.1; omega
          have lz : fS false (pkt zs) ≤ (dst4 (pkt zs) (D2.take 4)).length := by have := fz.2.2.2.1; have := fz.2.2.2.2.1; omega
          have cy := ck_nil fy.2.2.2.2.2.1
          have cz := ck_nil fz.2.2.2.2.2.1
          rw [sy] at cy
          rw [sz] at cz
          have key := word_two ((dst4 (pkt O) (D2.take 4)).take (fS false (pkt zs))) ((dst4 (pkt zs) (D2.take 4)).take (fS false (pkt zs))) 10 (by rw [List.length_take, List.length_take]; omega) rfl (by rw [List.length_take]; omega)
            (fun c hc => dsX_lt false _ _ (pkt_lt O g1.lt) b2 c (List.mem_of_mem_take hc)) (fun c hc => dsX_lt false _ _ (pkt_lt zs hb) b2 c (List.mem_of_mem_take hc)) (fun j q1 q2 => ?_) (by rw [cy, cz]) k
          · rw [getD_take _ _ _ hk, getD_take _ _ _ hk] at key
            rcases key with q | ⟨q, q'⟩
            · exact .inl q
            · exact .inr ⟨by omega, q'⟩
          · by_cases hj : j < fS false (pkt zs)
            · rw [getD_take _ _ _ hj, getD_take _ _ _ hj]
              by_cases hja : 16 ≤ j ∧ j < 20
              · have a := lB_at false _ _ GY.b GY.head j (.inr ⟨rfl, hja⟩)
                have b := lB_at false _ _ GZ.b GZ.head j (.inr ⟨rfl, hja⟩)
                exact a.trans b.symm
              · have a := GY.get j (by omega) (by simp)
                have b := GZ.get j (by omega) (by simp)
                have c := G1.get j (by omega) (by simp)
                have d := g1.hd j (by rw [hc]; exact hj)
                rw [hc] at d
                have e : O.getD (nN zs + j) 0 = (pkt O).getD j 0 := by rw [← g1.pN]; exact (getD_dr O (net O).1 j).symm
                rw [e] at d
                exact a.trans (d.trans (c.trans b.symm))
            · rw [List.getD_eq_getElem?_getD, List.getD_eq_getElem?_getD, List.getElem?_take, List.getElem?_take, if_neg hj, if_neg hj]
        · left
          have n1 : ¬ (sixF zs = false ∧ (k = 10 ∨ k = 11 ∨ 16 ≤ k ∧ k < 20)) := fun x => by
            rcases x with ⟨x, x2⟩
            by_cases x3 : k = 10 ∨ k = 11
            · exact hc ⟨x, x3⟩
            · exact ha (.inr ⟨x, by omega⟩)
          have n2 : ¬ (sixF zs = true ∧ 24 ≤ k ∧ k < 40) := fun x => ha (.inl x)
          rw [GY.get k n1 n2, GZ.get k n1 n2, o1, G1.get k n1 n2]
    · obtain ⟨k, rfl⟩ : ∃ k, i = nS zs + k := ⟨i - nS zs, by omega⟩
      have hk : k < fL (sixF zs) (pkt zs) - fS (sixF zs) (pkt zs) := by omega
      have y1 := gy.se k (by rw [g1.six, g1.sL, g1.sS]; exact hk)
      rw [g1.pS, eY] at y1
      have z1 := gz.se k hk
      rw [eZ] at z1
      rw [y1, z1]
      have hpp : fP (sixF zs) (pkt zs) = 6 ∨ fP (sixF zs) (pkt zs) = 17 := fP_or hF
      have hat := sAt_in _ _ hF.fs0
      obtain ⟨-, -, he⟩ := sAt_len _ hpp
      have sb : lB (sixF zs) (pkt zs) = lB (sixF zs) (pkt zs) := rfl
      have Pl := P1.len
      have e1 : sg9 zs D1 t1 = prt (fP (sixF zs) (pkt zs)) (sgm zs) (pt9 zs t1) (sixF zs) (lB (sixF zs) (pkt zs)) D1 := rfl
      rw [e1] at PY ⊢
      generalize fP (sixF zs) (pkt zs) = p at *
      have gg : ∀ j, j ≠ sAt p → j ≠ sAt p + 1 → (prt p (prt p (sgm zs) (pt9 zs t1) (sixF zs) (lB (sixF zs) (pkt zs)) D1) t2 (sixF zs) D1 D2).getD j 0 = (prt p (sgm zs) t2 (sixF zs) (lB (sixF zs) (pkt zs)) D2).getD j 0 := by
        intro j a b
        have w := u2_two PY.lt PZ.lt (by rw [PY.u2, PZ.u2])
        by_cases j2 : j = 2
        · subst j2; exact w.1
        · by_cases j3 : j = 3
          · subst j3; exact w.2
          · rw [PY.get j j2 j3 a b, PZ.get j j2 j3 a b, P1.get j j2 j3 a b]
      by_cases hw : wo p (sgm zs) = true
      · left
        by_cases a : k = sAt p ∨ k = sAt p + 1
        · have h4 : 4 ≤ k := by rcases hpp with e | e <;> subst e <;> simp [sAt] at a <;> omega
          have z2 := PZ.bare hw
          have o2 := P1.bare hw
          have w1 : wo p (prt p (sgm zs) (pt9 zs t1) (sixF zs) (lB (sixF zs) (pkt zs)) D1) = true := P1.wo.trans hw
          have y2 := PY.bare w1
          have hl4 : 4 ≤ (sgm zs).length := by omega
          rw [y2, z2, ov_get_off _ _ _ _ (by rw [bg_length, P1.len]; omega) (by rw [bg_length]; omega), ov_get_off _ _ _ _ (by rw [bg_length]; omega) (by rw [bg_length]; omega), o2, ov_get_off _ _ _ _ (by rw [bg_length]; omega) (by rw [bg_length]; omega)]
        · exact gg k (fun e => a (.inl e)) (fun e => a (.inr e))
      · have hw : wo p (sgm zs) = false := by simpa using hw
        have w1 : wo p (prt p (sgm zs) (pt9 zs t1) (sixF zs) (lB (sixF zs) (pkt zs)) D1) = false := P1.wo.trans hw
        have t1' := PY.sum w1 D1 l1
        have t2' := P1.sum hw D1 l1
        have t3' := PZ.sum hw D1 l1
        have ll : (prt p (prt p (sgm zs) (pt9 zs t1) (sixF zs) (lB (sixF zs) (pkt zs)) D1) t2 (sixF zs) D1 D2).length = (prt p (sgm zs) t2 (sixF zs) (lB (sixF zs) (pkt zs)) D2).length := by rw [PY.len, PZ.len, P1.len]
        have hwsp : wsp 0 (prt p (prt p (sgm zs) (pt9 zs t1) (sixF zs) (lB (sixF zs) (pkt zs)) D1) t2 (sixF zs) D1 D2) % 65535 = wsp 0 (prt p (sgm zs) t2 (sixF zs) (lB (sixF zs) (pkt zs)) D2) % 65535 := by
          have q := t1'.trans (t2'.trans t3'.symm)
          unfold tsum at q
          rw [ll] at q
          omega
        have key := word_two _ _ (sAt p) ll he (by rw [PY.len, P1.len]; omega) PY.lt PZ.lt gg hwsp k
        rcases key with q | ⟨q, q'⟩
        · exact .inl q
        · exact .inr ⟨by omega, q'⟩
end Go.Proofs.Ythionipmohbnhaa
namespace Go.Proofs.Ythionipmohbnhaa
open Go.RowKit
theorem meas_lt' {L j : Nat} (h : j < L) : L - (intOf (.int .i64 ((j : Int) + 1))).toNat < L - (intOf (.int .i64 (j : Int))).toNat := by simp [intOf]; omega
theorem cmp_eq' (p : Nat) (t : Nat) (x : Int) (b : Bool) (h : decide (p = t) = b) (e : x = (t : Int)) : ((p : Int) == x) = b ∧ ((p : Int) != x) = !b ∧ decide ((p : Int) = x) = b := by
  have e2 : decide ((p : Int) = x) = b := by rw [← h]; exact decide_eq_decide.2 (by omega)
  have e1 : ((p : Int) == x) = b := e2
  exact ⟨e1, by rw [bne, e1], e2⟩
set_option maxRecDepth 100000 in
set_option maxHeartbeats 8000000 in
theorem back_walk (n : Int) (v udp : Bool) (a : Option Addr) (la ca : Nat) (zs : List Nat) (m o : Int) (w : World) (hr : Rd w (.slice a la ca) (nus .u8 zs)) (hL : zs.length = la) (hna : a = none → ca = 0) (hb : ∀ c ∈ zs, c < 256) :
    Calls Try.prog 5 #[.int .i64 n, .bool v, .bool udp, .slice a la ca, .int .i64 m, .int .i64 o] w fun e w' => e = .returned (.bool true) ∧ Below w.heap.size w w' := by
  have K := Lib.hid (Below.refl w.heap.size w)
  by_cases hA : 400 < la
  · clear hr hL hna hb
    go_enter Try.func5, Try.ntmps5
    go_wp2_with fail
    refine (awake_any _).mono ?_
    rintro e V1 ⟨rfl, hy⟩
    replace K := Lib.hid (K.out.trans (hy.mono K.out.size))
    clear hy
    go_wp2
    go_ret
    exact ⟨rfl, K.out⟩
  have CK := Lib.hid (fun W => flow_any n v udp W)
  obtain ⟨u, hu⟩ : ∃ u : Nat, u = (n % 1073741824).toNat := ⟨_, rfl⟩
  rw [← hu] at CK
  clear hu
  have CD1 := Lib.hid (fun W => dip_any m v W)
  obtain ⟨q1, hq1, hq12⟩ : ∃ q : Nat, q = (m % 200).toNat ∧ q < 200 := ⟨_, rfl, by omega⟩
  obtain ⟨t1, ht1, ht12, ht13⟩ : ∃ t : Nat, t = 8000 + (m % 1000).toNat ∧ t < 9000 ∧ 8000 ≤ t := ⟨_, rfl, by omega, by omega⟩
  rw [← hq1, ← ht1] at CD1
  clear hq1 ht1
  obtain ⟨D1, hD1⟩ : ∃ D, D = dB q1 ++ List.replicate 12 0 := ⟨_, rfl⟩
  rw [← hD1] at CD1
  have lD1 : D1.length = 16 := by rw [hD1]; rfl
  have bD1 : ∀ c ∈ D1, c < 256 := by
    intro c hc
    rw [hD1] at hc
    rcases List.mem_append.1 hc with h | h
    · simp [dB] at h; omega
    · rw [List.eq_of_mem_replicate h]; omega
  have vD1 : vldA v D1 = true := by rw [hD1]; cases v <;> rfl
  clear hD1 hq12
  have CD2 := Lib.hid (fun W => dip_any o v W)
  obtain ⟨q2, hq2, hq22⟩ : ∃ q : Nat, q = (o % 200).toNat ∧ q < 200 := ⟨_, rfl, by omega⟩
  obtain ⟨t2, ht2, ht22, ht23⟩ : ∃ t : Nat, t = 8000 + (o % 1000).toNat ∧ t < 9000 ∧ 8000 ≤ t := ⟨_, rfl, by omega, by omega⟩
  rw [← hq2, ← ht2] at CD2
  clear hq2 ht2
  obtain ⟨D2, hD2⟩ : ∃ D, D = dB q2 ++ List.replicate 12 0 := ⟨_, rfl⟩
  rw [← hD2] at CD2
  have lD2 : D2.length = 16 := by rw [hD2]; rfl
  have bD2 : ∀ c ∈ D2, c < 256 := by
    intro c hc
    rw [hD2] at hc
    rcases List.mem_append.1 hc with h | h
    · simp [dB] at h; omega
    · rw [List.eq_of_mem_replicate h]; omega
  have vD2 : vldA v D2 = true := by rw [hD2]; cases v <;> rfl
  clear hD2 hq22
  have hBl := fB8_lt u v udp 0 zs false false 0 (by omega) hb
  have h8 := fB8_told u v udp 0 zs false false (List.replicate 0 0) (by omega)
  have h9 : Told9 v (sV u) dV (pr udp) (1000 + u % 50000) 80 0 zs.length false (fB8 u v udp 0 zs false false (List.replicate 0 0)) := told9 _ _ _ _ _ _ _ _ _ _ _ (pr_or udp) (sV_len u) dV_len (sV_v v u) (dV_v v) (by omega) (by omega) (by omega)
  have s1 := sent u v udp 0 zs false false (List.replicate 0 0) D1 t1 (by omega) hBl lD1 bD1 vD1 (by omega)
  have s2 := sent u v udp 0 zs false false (List.replicate 0 0) D2 t2 (by omega) hBl lD2 bD2 vD2 (by omega)
  have CB := Lib.hid (fun W (h : Rd W (.slice a la ca) (nus .u8 zs)) => fB8_any u v udp 0 0 a la ca zs false false W h hL hna hb (by omega) (by omega) (by omega))
  have hBlen : (fB8 u v udp 0 zs false false (List.replicate 0 0)).length ≤ 600 := by
    rw [h8.len, List.length_replicate]; unfold hN hH hsz; split <;> split <;> split <;> omega
  have hB0 : 0 < (fB8 u v udp 0 zs false false (List.replicate 0 0)).length := by
    rw [h8.len]; unfold hN; split <;> omega
  generalize fB8 u v udp 0 zs false false (List.replicate 0 0) = B at *
  have hT := twice B D1 t1 D2 t2 hBl h8.rr lD1 bD1 (by rw [h9.six]; exact vD1) (by omega) lD2 bD2 (by rw [h9.six]; exact vD2) (by omega) (by omega)
  have gy := gone9 (to9 B D1 t1) D2 t2 hT.bO hT.rO lD2 bD2 (by rw [hT.sO, h9.six]; exact vD2) (by omega)
  have hokY : ok9 (to9 B D1 t1) v D2 = true := by unfold ok9; rw [hT.rO, hT.sO, h9.six, vD2]; simp
  have hgY := gy.good s1.gf
  have hofY : tof (to9 B D1 t1) v D2 t2 = to9 (to9 B D1 t1) D2 t2 := if_pos hokY
  have hget := hT.get
  rw [h9.six, h9.fp, h9.pN, h9.pS] at hget
  obtain ⟨O, hO⟩ : ∃ O, O = to9 B D1 t1 := ⟨_, rfl⟩
  rw [← hO] at hT gy s1 hokY hgY hofY hget
  clear hO
  obtain ⟨Y, hY⟩ : ∃ Y, Y = to9 O D2 t2 := ⟨_, rfl⟩
  rw [← hY] at hT gy hgY hofY hget
  clear hY
  obtain ⟨Z, hZ⟩ : ∃ Z, Z = to9 B D2 t2 := ⟨_, rfl⟩
  rw [← hZ] at hT s2 hget
  clear hZ
  have lY : Y.length = B.length := hT.len.trans s2.len
  have lZ : Z.length = B.length := s2.len
  have lO : O.length = B.length := s1.len
  have C1 := Lib.hid (fun W z (h : Rd W z (nus .u8 B)) => to_any z B v D1 t1 W h hBl (by omega) lD1 bD1 (by omega))
  rw [s1.of, s1.ok] at C1
  have C2 := Lib.hid (fun W z (h : Rd W z (nus .u8 O)) => to_any z O v D2 t2 W h hT.bO (by omega) lD2 bD2 (by omega))
  rw [hofY, hokY] at C2
  have C3 := Lib.hid (fun W z (h : Rd W z (nus .u8 B)) => to_any z B v D2 t2 W h hBl (by omega) lD2 bD2 (by omega))
  rw [s2.of, s2.ok] at C3
  have CR1 := Lib.hid (fun W z (h : Rd W z (nus .u8 Z)) => rframe_any z Z W h s2.lt (by omega))
  rw [s2.rr] at CR1
  have CR2 := Lib.hid (fun W z (h : Rd W z (nus .u8 Y)) => rframe_any z Y W h gy.lt (by omega))
  rw [gy.rr0, hT.vw] at CR2
  have CG1 := Lib.hid (fun W z (h : Rd W z (nus .u8 Y)) => rfgood_any z Y W h gy.lt (by omega))
  rw [hgY] at CG1
  have CG2 := Lib.hid (fun W z (h : Rd W z (nus .u8 Z)) => rfgood_any z Z W h s2.lt (by omega))
  rw [s2.gf] at CG2
  have CF := Lib.hid (fun W x y (h1 : Rd W x (nus .u8 Y)) (h2 : Rd W y (nus .u8 Z)) => differs_any x y Y Z W h1 h2 (by omega) (by omega))
  have QV := fun W => eq_vw Z s2.lt (by omega) W
  obtain ⟨tl, htl⟩ : ∃ tl, tl = hN false := ⟨_, rfl⟩
  have htl2 : tl = 14 := htl
  obtain ⟨sg, hsg⟩ : ∃ x, x = hN false + hH v := ⟨_, rfl⟩
  have hsg58 : sg ≤ 58 := by rw [hsg]; unfold hH hN; split <;> split <;> omega
  rw [← hsg, ← htl] at hget
  have hvZ := s2.vw
  rw [← hsg, ← htl] at hvZ
  have HGET := Lib.hid (fun p (hp : p ∈ difs Y Z) => (fun h : p < Y.length ∧ Z.getD p 0 ≠ Y.getD p 0 => And.intro h.1 (show (p = tl + 10 ∨ p = tl + 11 ∨ p = sg + sAt (pr udp) ∨ p = sg + sAt (pr udp) + 1) ∧ Y.getD p 0 % 255 = 0 ∧ Z.getD p 0 % 255 = 0 from (hget p).resolve_left (fun e => h.2 e.symm))) (difs_get Y Z hT.len p hp))
  have zZ := vw_size Z
  have ZZ := Lib.hid (i72.trans (congrArg some zZ.symm))
  have YZ : Hid ((vw Z).size = Array.size (ZcV : Array Value)) := zZ
  have AZ := Lib.hid (vw_all Z)
  have V1' := Lib.hid (show (vw Z)[1]? = some (.int .i64 (tl : Int)) from by rw [hvZ]; rfl)
  have V2' := Lib.hid (show (vw Z)[2]? = some (.int .i64 (sg : Int)) from by rw [hvZ]; rfl)
  have HR := Lib.hid hr
  have HBY := Lib.hid gy.lt
  have HBZ := Lib.hid s2.lt
  obtain ⟨nb, hnb⟩ : ∃ x, x = B.length := ⟨_, rfl⟩
  rw [← hnb] at CB hBlen hB0 lY lZ lO
  have HLY := Lib.hid lY
  have HLZ := Lib.hid lZ
  clear hr hL hna hb hBl h8 h9 s1 s2 hT gy hokY hgY hofY hget lD1 bD1 vD1 lD2 bD2 vD2 hvZ zZ htl hsg hnb lY lZ lO
  generalize vw Z = VZ at *
  generalize flow u v udp = kc at *
  generalize dcells (cellsA v D1) t1 = d1 at *
  generalize dcells (cellsA v D2) t2 = d2 at *
  go_enter Try.func5, Try.ntmps5
  go_wp2_with fail
  refine (CK.out _).mono ?_
  rintro e V1 ⟨rfl, hy⟩
  replace K := Lib.hid (K.out.trans (hy.mono K.out.size))
  clear hy
  go_wp2_with fail
  refine (CB.out _ (HR.out.below K.out)).mono ?_
  rintro e V2 ⟨gb, cb, rfl, ob, hy⟩
  replace K := Lib.hid (K.out.trans (hy.mono K.out.size))
  have RB := Lib.hid (Rd.own ob)
  clear ob
  clear hy
  go_wp2_with fail
  refine (CD1.out _).mono ?_
  rintro e V3 ⟨rfl, hy⟩
  replace K := Lib.hid (K.out.trans (hy.mono K.out.size))
  replace RB := Lib.hid (RB.out.below hy)
  clear hy
  go_wp2_with fail
  refine (C1.out _ _ RB.out).mono ?_
  rintro e V4 ⟨x1, rfl, rx, hy⟩
  replace K := Lib.hid (K.out.trans (hy.mono K.out.size))
  replace RB := Lib.hid (RB.out.below hy)
  have RO := Lib.hid (rx)
  clear rx
  clear hy
  go_wp2_with fail
  refine (CD2.out _).mono ?_
  rintro e V5 ⟨rfl, hy⟩
  replace K := Lib.hid (K.out.trans (hy.mono K.out.size))
  replace RB := Lib.hid (RB.out.below hy)
  replace RO := Lib.hid (RO.out.below hy)
  clear hy
  go_wp2_with fail
  refine (C2.out _ _ RO.out).mono ?_
  rintro e V6 ⟨x2, rfl, rx, hy⟩
  replace K := Lib.hid (K.out.trans (hy.mono K.out.size))
  replace RB := Lib.hid (RB.out.below hy)
  replace RO := Lib.hid (RO.out.below hy)
  have RY := Lib.hid (rx)
  clear rx
  clear hy
  go_wp2_with fail
  refine (CD2.out _).mono ?_
  rintro e V7 ⟨rfl, hy⟩
  replace K := Lib.hid (K.out.trans (hy.mono K.out.size))
  replace RB := Lib.hid (RB.out.below hy)
  replace RO := Lib.hid (RO.out.below hy)
  replace RY := Lib.hid (RY.out.below hy)
  clear hy
  go_wp2_with fail
  refine (C3.out _ _ RB.out).mono ?_
  rintro e V8 ⟨x3, rfl, rx, hy⟩
  replace K := Lib.hid (K.out.trans (hy.mono K.out.size))
  replace RB := Lib.hid (RB.out.below hy)
  replace RO := Lib.hid (RO.out.below hy)
  replace RY := Lib.hid (RY.out.below hy)
  have RZ := Lib.hid (rx)
  clear rx
  clear hy
  obtain ⟨ay, cy, ex, -, -⟩ := rd_shape RY.out
  rw [HLY.out] at ex
  subst ex
  obtain ⟨az, cz, ex, -, -⟩ := rd_shape RZ.out
  rw [HLZ.out] at ex
  subst ex
  clear RB RO
  go_wp2_with fail
  refine (CR1.out _ _ RZ.out).mono ?_
  rintro e V9 ⟨rfl, hy⟩
  replace K := Lib.hid (K.out.trans (hy.mono K.out.size))
  replace RY := Lib.hid (RY.out.below hy)
  replace RZ := Lib.hid (RZ.out.below hy)
  clear hy
  go_wp2_with (((with_reducible refine wpList_blk_store (op := ⟨none, .store 42 (.tmp 20) (.tmp 81), _, _, _, _⟩) ?sg1 42 (.tmp 20) (.tmp 81) ?so1 (V9.heap.size) VZ ?sx1 ?sy1 (Blk.new V9 42 ZcV) YZ.out ZZ.out AZ.out ?_); (case sg1 => rfl); (case so1 => rfl); (case sx1 => rfl); (case sy1 => rfl)))
  intro V10 hA hF hB
  have hy := ((Below.refl V9.heap.size V9).alloc (Nat.le_refl _) (.cells ZcV 42)).trans (hB _ (Nat.le_refl _))
  replace K := Lib.hid (K.out.trans (hy.mono K.out.size))
  replace RY := Lib.hid (RY.out.below hy)
  replace RZ := Lib.hid (RZ.out.below hy)
  have N20 := Lib.hid hA
  clear hA hF hB hy
  go_wp2_with fail
  refine (CR2.out _ _ RY.out).mono ?_
  rintro e V11 ⟨rfl, hy⟩
  replace K := Lib.hid (K.out.trans (hy.mono K.out.size))
  replace RY := Lib.hid (RY.out.below hy)
  replace RZ := Lib.hid (RZ.out.below hy)
  replace N20 := Lib.hid (N20.out.below hy N20.out.lt)
  clear hy
  go_wp2_with (((with_reducible refine wpList_blk_store (op := ⟨none, .store 42 (.tmp 22) (.tmp 86), _, _, _, _⟩) ?sg2 42 (.tmp 22) (.tmp 86) ?so2 (V11.heap.size) VZ ?sx2 ?sy2 (Blk.new V11 42 ZcV) YZ.out ZZ.out AZ.out ?_); (case sg2 => rfl); (case so2 => rfl); (case sx2 => rfl); (case sy2 => rfl)))
  have qN20N22 : V9.heap.size < V11.heap.size := N20.out.lt
  intro V12 hA hF hB
  have hy := ((Below.refl V11.heap.size V11).alloc (Nat.le_refl _) (.cells ZcV 42)).trans (hB _ (Nat.le_refl _))
  replace K := Lib.hid (K.out.trans (hy.mono K.out.size))
  replace RY := Lib.hid (RY.out.below hy)
  replace RZ := Lib.hid (RZ.out.below hy)
  replace N20 := Lib.hid (N20.out.below hy N20.out.lt)
  have N22 := Lib.hid hA
  clear hA hF hB hy
  have L3 : (loadVar 42 ⟨V9.heap.size, 0, none⟩).run Try.prog V12 = .ok (.agg VZ) V12 := run_blk_load (P := Try.prog) 42 (V9.heap.size) _ N20.out Try.underlying42 rfl ZZ.out
  replace L3 := Lib.hid L3
  have L4 : (loadVar 42 ⟨V11.heap.size, 0, none⟩).run Try.prog V12 = .ok (.agg VZ) V12 := run_blk_load (P := Try.prog) 42 (V11.heap.size) _ N22.out Try.underlying42 rfl ZZ.out
  replace L4 := Lib.hid L4
  go_wp2_with (first | ((with_reducible refine wpList_load_want (op := ⟨some 95, .load 42 (.tmp 20), _, _, _, _⟩) ?wg3 42 (.tmp 20) ?wo3 ⟨V9.heap.size, 0, none⟩ ?wx3 (.agg VZ) L3.out ?_); (case wg3 => rfl); (case wo3 => rfl); (case wx3 => rfl)) | ((with_reducible refine wpList_load_want (op := ⟨some 96, .load 42 (.tmp 22), _, _, _, _⟩) ?wg4 42 (.tmp 22) ?wo4 ⟨V11.heap.size, 0, none⟩ ?wx4 (.agg VZ) L4.out ?_); (case wg4 => rfl); (case wo4 => rfl); (case wx4 => rfl)))
  clear L3 L4
  refine (CG1.out _ _ RY.out).mono ?_
  rintro e V13 ⟨rfl, hy⟩
  replace K := Lib.hid (K.out.trans (hy.mono K.out.size))
  replace RY := Lib.hid (RY.out.below hy)
  replace RZ := Lib.hid (RZ.out.below hy)
  replace N20 := Lib.hid (N20.out.below hy N20.out.lt)
  replace N22 := Lib.hid (N22.out.below hy N22.out.lt)
  clear hy
  go_wp2_with fail
  refine (CG2.out _ _ RZ.out).mono ?_
  rintro e V14 ⟨rfl, hy⟩
  replace K := Lib.hid (K.out.trans (hy.mono K.out.size))
  replace RY := Lib.hid (RY.out.below hy)
  replace RZ := Lib.hid (RZ.out.below hy)
  replace N20 := Lib.hid (N20.out.below hy N20.out.lt)
  replace N22 := Lib.hid (N22.out.below hy N22.out.lt)
  clear hy
  go_wp2_with fail
  refine (CF.out _ _ _ RY.out RZ.out).mono ?_
  rintro e V15 ⟨xl, rfl, ol, hy⟩
  replace K := Lib.hid (K.out.trans (hy.mono K.out.size))
  replace RY := Lib.hid (RY.out.below hy)
  replace RZ := Lib.hid (RZ.out.below hy)
  replace N20 := Lib.hid (N20.out.below hy N20.out.lt)
  replace N22 := Lib.hid (N22.out.below hy N22.out.lt)
  have RL := Lib.hid (Rd.own ol)
  obtain ⟨al, cl, rfl, -, -⟩ := rd_shape RL.out
  clear ol
  clear hy
  obtain ⟨L, hL⟩ : ∃ x, x = (difs Y Z).length := ⟨_, rfl⟩
  have HLL := Lib.hid hL
  rw [← hL] at RL ⊢
  clear hL
  have hL3 : L ≤ 3000 := by rw [HLL.out]; unfold difs; refine Nat.le_trans (dif_len _ _ _) ?_; rw [HLY.out, HLZ.out]; omega
  go_wp2_with fail
  go_loop [25] (fun i => ∃ j : Nat, j ≤ L ∧ i = .int .i64 (j : Int)) (fun i => L - (intOf i).toNat)
  case atStart => exact ⟨0, Nat.zero_le _, rfl⟩
  case round =>
    obtain ⟨j, hj, rfl⟩ := hrel
    by_cases hjl : j < L
    · have hji : (j : Int) < (L : Int) := by omega
      have hjw : IntKind.i64.wrap ((j : Int) + 1) = ((j + 1 : Nat) : Int) := by rw [IntKind.wrap_i64]; omega
      obtain ⟨bl, ol, rfl, ql⟩ := RL.out.cells (by omega)
      have cl := ql j hjl
      have hp := HGET.out ((difs Y Z).getD j 0) (by
        rw [List.getD_eq_getElem?_getD, List.getElem?_eq_getElem (by rw [← HLL.out]; exact hjl)]
        exact List.getElem_mem _)
      generalize (difs Y Z).getD j 0 = p at *
      rw [HLY.out] at hp
      clear ql
      have hp1 := hp.1
      have hp2 := hp.2.1
      obtain ⟨hp3, hp4⟩ := hp.2.2
      clear hp
      obtain ⟨b1, o1, rfl, qy⟩ := RY.out.cells (by omega)
      obtain ⟨b2, o2, rfl, qz⟩ := RZ.out.cells (by omega)
      have cy := qy p hp1
      have cz := qz p hp1
      have f1 := (N20.out.cell 1).trans V1'.out
      have f2 := (N20.out.cell 2).trans V2'.out
      have hpi : (p : Int) < (nb : Int) := by omega
      generalize Y.getD p 0 = x at *
      generalize Z.getD p 0 = y at *
      clear qy qz
      obtain ⟨c10, hc10⟩ : ∃ b, b = decide (p = tl + 10) := ⟨_, rfl⟩
      obtain ⟨ic10, jc10, kc10⟩ := cmp_eq' p (tl + 10) ((tl : Int) + 10) c10 hc10.symm (by simp)
      have Hc10 := Lib.hid hc10
      clear hc10
      obtain ⟨c11, hc11⟩ : ∃ b, b = decide (p = tl + 11) := ⟨_, rfl⟩
      obtain ⟨ic11, jc11, kc11⟩ := cmp_eq' p (tl + 11) ((tl : Int) + 11) c11 hc11.symm (by simp)
      have Hc11 := Lib.hid hc11
      clear hc11
      obtain ⟨x16, hx16⟩ : ∃ b, b = decide (p = sg + 16) := ⟨_, rfl⟩
      obtain ⟨ix16, jx16, kx16⟩ := cmp_eq' p (sg + 16) ((sg : Int) + 16) x16 hx16.symm (by simp)
      have Hx16 := Lib.hid hx16
      clear hx16
      obtain ⟨x17, hx17⟩ : ∃ b, b = decide (p = sg + 17) := ⟨_, rfl⟩
      obtain ⟨ix17, jx17, kx17⟩ := cmp_eq' p (sg + 17) ((sg : Int) + 17) x17 hx17.symm (by simp)
      have Hx17 := Lib.hid hx17
      clear hx17
      obtain ⟨x6, hx6⟩ : ∃ b, b = decide (p = sg + 6) := ⟨_, rfl⟩
      obtain ⟨ix6, jx6, kx6⟩ := cmp_eq' p (sg + 6) ((sg : Int) + 6) x6 hx6.symm (by simp)
      have Hx6 := Lib.hid hx6
      clear hx6
      obtain ⟨x7, hx7⟩ : ∃ b, b = decide (p = sg + 7) := ⟨_, rfl⟩
      obtain ⟨ix7, jx7, kx7⟩ := cmp_eq' p (sg + 7) ((sg : Int) + 7) x7 hx7.symm (by simp)
      have Hx7 := Lib.hid hx7
      clear hx7
      have HF : Hid ((c10 || c11 || x16 || x17 || x6 || x7) = true) := by
        show _ = true
        rw [Hc10.out, Hc11.out, Hx16.out, Hx17.out, Hx6.out, Hx7.out]
        have hsa : sAt (pr udp) = 16 ∨ sAt (pr udp) = 6 := by cases udp <;> simp [sAt, pr]
        rcases hsa with e | e <;> rw [e] at hp2 <;> rcases hp2 with h | h | h | h <;> simp [h]
      clear hp2 Hc10 Hc11 Hx16 Hx17 Hx6 Hx7
      have wtl10 : IntKind.i64.wrap ((tl : Int) + 10) = (tl : Int) + 10 := by rw [IntKind.wrap_i64]; omega
      have wtl11 : IntKind.i64.wrap ((tl : Int) + 11) = (tl : Int) + 11 := by rw [IntKind.wrap_i64]; omega
      have wsg16 : IntKind.i64.wrap ((sg : Int) + 16) = (sg : Int) + 16 := by rw [IntKind.wrap_i64]; omega
      have wsg17 : IntKind.i64.wrap ((sg : Int) + 17) = (sg : Int) + 17 := by rw [IntKind.wrap_i64]; omega
      have wsg6 : IntKind.i64.wrap ((sg : Int) + 6) = (sg : Int) + 6 := by rw [IntKind.wrap_i64]; omega
      have wsg7 : IntKind.i64.wrap ((sg : Int) + 7) = (sg : Int) + 7 := by rw [IntKind.wrap_i64]; omega
      have rx1 : (x : Int) % 255 = 0 := by omega
      have ry1 : (y : Int) % 255 = 0 := by omega
      have rx2 : (x : Int).tmod 255 = 0 := by rw [Int.tmod_eq_emod_of_nonneg (by omega)]; exact rx1
      have ry2 : (y : Int).tmod 255 = 0 := by rw [Int.tmod_eq_emod_of_nonneg (by omega)]; exact ry1
      have wz : IntKind.u8.wrap 0 = 0 := rfl
      clear htl2
      cases c10 with
      | true => (clear HF; as_aux_lemma => (go_wp2; go_round; (case rel => exact ⟨j + 1, hjl, by go_num⟩); (case measure => exact meas_lt' hjl)))
      | false =>
        cases c11 with
        | true => (clear HF; as_aux_lemma => (go_wp2; go_round; (case rel => exact ⟨j + 1, hjl, by go_num⟩); (case measure => exact meas_lt' hjl)))
        | false =>
          cases x16 with
          | true => (clear HF; as_aux_lemma => (go_wp2; go_round; (case rel => exact ⟨j + 1, hjl, by go_num⟩); (case measure => exact meas_lt' hjl)))
          | false =>
            cases x17 with
            | true => (clear HF; as_aux_lemma => (go_wp2; go_round; (case rel => exact ⟨j + 1, hjl, by go_num⟩); (case measure => exact meas_lt' hjl)))
            | false =>
              cases x6 with
              | true => (clear HF; as_aux_lemma => (go_wp2; go_round; (case rel => exact ⟨j + 1, hjl, by go_num⟩); (case measure => exact meas_lt' hjl)))
              | false =>
                cases x7 with
                | true => (clear HF; as_aux_lemma => (go_wp2; go_round; (case rel => exact ⟨j + 1, hjl, by go_num⟩); (case measure => exact meas_lt' hjl)))
                | false => exact absurd HF.out (by simp)
    · obtain rfl : L = j := by omega
      go_wp2_with fail
      refine (awake_any _).mono ?_
      rintro e w2 ⟨rfl, hy⟩
      replace K := Lib.hid (K.out.trans (hy.mono K.out.size))
      go_wp2
      go_ret
      exact ⟨rfl, K.out⟩
end Go.Proofs.Ythionipmohbnhaa
