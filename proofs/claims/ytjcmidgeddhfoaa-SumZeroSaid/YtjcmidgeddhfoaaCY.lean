/- The walk of SumChanges. -/
import Derived.Test.YtjcmidgeddhfoaaCX
namespace Go.Proofs.Ytjcmidgeddhfoaa
open Go.RowKit Go.Sort

set_option maxRecDepth 100000 in
set_option maxHeartbeats 2000000 in
theorem changes_no (vb vt : Value) (B T : List Nat) (at0 : Int) (w : World) (hb : Rd w vb (nus .u8 B)) (ht : Rd w vt (nus .u8 T)) (hno : 1000 < B.length ∨ B.length < T.length ∨ T.length % 2 ≠ 0 ∨ B.length < 2) :
    Calls Try.prog 4 #[vb, .int .i64 at0, vt] w fun e w' => e = .returned (.bool true) ∧ Below w.heap.size w w' := by
  obtain ⟨a0, c0, rfl, h0, k0, -⟩ := hb
  obtain ⟨a1, c1, rfl, h1, k1, -⟩ := ht
  rw [nus_length] at h0 h1
  rw [nus_length, nus_length]
  unfold maxLen at k0 k1
  generalize B.length = l0 at *
  generalize T.length = l1 at *
  go_enter Try.func4, Try.ntmps4
  by_cases g0 : 1000 < l0
  · go_wp2_with fail
    refine (awake_any _).mono ?_
    rintro e w2 ⟨rfl, hb⟩
    go_wp2
    go_ret
    exact ⟨rfl, hb⟩
  · by_cases g1 : l0 < l1
    · go_wp2_with fail
      refine (awake_any _).mono ?_
      rintro e w2 ⟨rfl, hb⟩
      go_wp2
      go_ret
      exact ⟨rfl, hb⟩
    · by_cases g2 : l1 % 2 ≠ 0
      · have g3 : (((l1 : Int) % 2) != 0) = true := by rw [bne_iff_ne]; omega
        clear hno g2
        go_wp2_with fail
        refine (awake_any _).mono ?_
        rintro e w2 ⟨rfl, hb⟩
        go_wp2
        go_ret
        exact ⟨rfl, hb⟩
      · have g3 : (((l1 : Int) % 2) != 0) = false := by rw [bne_eq_false_iff_eq]; omega
        have g4 : l0 < 2 := by omega
        clear hno g2
        go_wp2_with fail
        refine (awake_any _).mono ?_
        rintro e w2 ⟨rfl, hb⟩
        go_wp2
        go_ret
        exact ⟨rfl, hb⟩

theorem Rd.subP {w : World} {b off len cap : Nat} {k : IntKind} {bs : List Nat} (h : Rd w (.slice (some ⟨b, off, none⟩) len cap) (nus k bs)) (j m : Nat) (hc : j + m ≤ len) :
    Rd w (.slice (if cap = j then some ⟨b, off, none⟩ else some ⟨b, off + j, none⟩) m (cap - j)) (nus k ((bs.drop j).take m)) := by
  by_cases he : cap = j
  · rw [if_pos he]
    have h1 := h
    obtain ⟨a', cap', e, h1, h2, h3⟩ := h1
    simp only [Value.slice.injEq] at e
    obtain ⟨-, rfl, rfl⟩ := e
    have hm : m = 0 := by omega
    subst hm
    exact ⟨some ⟨b, off, none⟩, cap - j, by simp [nus], by simp [nus], by omega, .inl (by simp [nus])⟩
  · rw [if_neg he]; exact h.sub j m hc
theorem even_part (r k : Nat) (h : k = r - r % 2) : (r : Int) - (r : Int) % 2 = (k : Int) := by subst h; omega
theorem own_some {w : World} {base n : Nat} {e : TypeId} {v : Value} {xs : List Value} (h : w.ownsRow base e 1 v n xs) (h0 : 0 < n) : ∃ g cap, v = .slice (some ⟨g, 0, none⟩) n cap ∧ n ≤ cap ∧ cap ≤ maxLen ∧ base ≤ g := by
  rcases h.2 with ⟨rfl, rfl⟩ | ⟨g, cap, cur, rfl, hg, hh, hn, hm, hs, ht⟩
  · omega
  · exact ⟨g, cap, rfl, hn, hm, hg⟩
theorem grown_trans {a b c : World} {r : Option Nat} (h : a.grownBy b r) (g : b.grownBy c r) : a.grownBy c r :=
  ⟨g.os.trans h.os, g.tape.trans h.tape, g.output.trans h.output, Nat.le_trans h.size g.size, fun k hk hr => (g.block k (Nat.lt_of_lt_of_le hk h.size) hr).trans (h.block k hk hr)⟩
theorem nus_set (k : IntKind) (zs : List Nat) (i n : Nat) : (nus k zs).set i (.int k (n : Int)) = nus k (zs.set i n) := by simp [nus, List.map_set]

set_option maxRecDepth 100000 in
set_option maxHeartbeats 2000000 in
theorem changes_yes (a0 a1 : Option Addr) (l0 l1 c0 c1 : Nat) (B T : List Nat) (at0 : Int) (w : World) (hb : Rd w (.slice a0 l0 c0) (nus .u8 B)) (ht : Rd w (.slice a1 l1 c1) (nus .u8 T)) (hnb : a0 = none → c0 = 0)
    (hB : B.length = l0) (hT : T.length = l1) (h0 : l0 ≤ 1000) (h1 : l1 ≤ l0) (h2 : l1 % 2 = 0) (h3 : 2 ≤ l0)
    (bB : ∀ c ∈ B, c < 256) (bT : ∀ c ∈ T, c < 256) :
    Calls Try.prog 4 #[.slice a0 l0 c0, .int .i64 at0, .slice a1 l1 c1] w fun e w' => e = .returned (.bool true) ∧ Below w.heap.size w w' := by
  obtain ⟨b0, o0, rfl, -⟩ := hb.cells (by omega)
  obtain ⟨r, hr, hrl⟩ : ∃ r : Nat, at0 % ((l0 : Int) - l1 + 1) = r ∧ r + l1 ≤ l0 := ⟨(at0 % ((l0 : Int) - l1 + 1)).toNat, by have := Int.emod_nonneg at0 (show ((l0 : Int) - l1 + 1) ≠ 0 by omega); omega, by have := Int.emod_lt_of_pos at0 (show (0 : Int) < (l0 : Int) - l1 + 1 by omega); have := Int.emod_nonneg at0 (show ((l0 : Int) - l1 + 1) ≠ 0 by omega); omega⟩
  obtain ⟨k, hk⟩ : ∃ k, k = r - r % 2 := ⟨_, rfl⟩
  have hk2 : k % 2 = 0 ∧ k + l1 ≤ l0 ∧ k ≤ 1000 := by omega
  have hm := Lib.hid (changes_math B T k hk2.1 (by omega) (by omega) bB)
  have HR := Lib.hid hr
  have HK := Lib.hid hk
  have RB := Lib.hid hb
  have RT := Lib.hid ht
  have HB := Lib.hid hB
  have HT := Lib.hid hT
  have NB := Lib.hid hnb
  have BB := Lib.hid bB
  have BT := Lib.hid bT
  have hm2 : (((l1 : Int) % 2) != 0) = false := by rw [bne_eq_false_iff_eq]; omega
  obtain ⟨-, hkl, hk1⟩ := hk2
  clear hr hk hb ht hB hT hnb bB bT h2
  go_enter Try.func4, Try.ntmps4
  go_wp2_with fail
  refine (round_any at0 _ _ (by omega) (by omega)).mono ?_
  rintro e w' ⟨rfl, rfl⟩
  rw [HR.out]
  have b1 := (Below.refl w.heap.size w).alloc (Nat.le_refl _) (.cells #[] 5)
  have o1 := own_none w 5
  have RB1 := Lib.hid (RB.out.below b1)
  have O1 := Lib.hid o1
  have B1 := Lib.hid b1
  clear o1 b1
  go_wp2_with (at_builtin; refine wpList_app rfl (.tmp 44) (.tmp 45) rfl w.heap.size _ 0 [] rfl O1.out (some ⟨b0, o0, none⟩) l0 c0 B rfl RB1.out NB.out ?c2 ?c3 ?c4)
  case c2 => omega
  case c3 => simp
  intro v2 w2 o2 g2
  have b2 := B1.out.grown g2 B1.out.size (fun k e => by cases e; exact Nat.le_refl _)
  obtain ⟨g, cap, rfl, hcap, hcm, hgb⟩ := own_some o2 (by omega)
  unfold maxLen at hcm
  have B2 := Lib.hid b2
  have O2 := Lib.hid o2
  have HKR := Lib.hid (even_part r k HK.out)
  rw [HKR.out]
  clear o2 g2 b2 O1 B1 RB1
  go_wp2_with fail
  go_loopw [9] (fun i wr => ∃ j : Nat, j ≤ l1 ∧ i = .int .i64 (j : Int) ∧ wr.ownsRow w.heap.size 5 1 (.slice (some ⟨g, 0, none⟩) l0 cap) l0 (nus .u8 (mix B T k j)) ∧ w2.grownBy wr (some g)) (fun i _ => l1 - (intOf i).toNat)
  case atStart => exact ⟨0, Nat.zero_le _, rfl, by rw [mix_zero]; exact O2.out, World.grownBy.refl _ _⟩
  case round =>
    obtain ⟨j, hj, rfl, hown, hgr⟩ := hrel
    have hbr := B2.out.grown hgr B2.out.size (fun q e => by cases e; exact hgb)
    by_cases hlt : j < l1
    · obtain ⟨b1, o1, rfl, hct⟩ := (RT.out.below hbr).cells (by omega)
      have ct := hct j hlt
      have hx := getD_lt T BT.out j
      have hkj : k + j < l0 := by omega
      have hcell := hown.cellAt (k + j) (by omega)
      rw [nus_get _ _ _ (by rw [mix_length _ _ _ _ (by rw [HB.out]; omega) (by rw [HT.out]; omega), HB.out]; exact hkj)] at hcell
      have hfz := hown.frozenAt (k + j)
      have hst := hown.stored (k + j) (.int .u8 ((T.getD j 0 : Nat) : Int))
      rw [nus_set, mix_step B T k j (by rw [HB.out]; omega) (by rw [HT.out]; exact hlt)] at hst
      obtain ⟨x, hxe⟩ : ∃ x, x = T.getD j 0 := ⟨_, rfl⟩
      rw [← hxe] at ct hx hst
      obtain ⟨y, hye⟩ : ∃ y, y = (mix B T k j).getD (k + j) 0 := ⟨_, rfl⟩
      rw [← hye] at hcell
      have HS := Lib.hid hst
      have HGR := Lib.hid hgr
      clear hct hown hst hgr hbr hxe hye
      go_wp2
      go_roundw
      case rel => exact ⟨j + 1, by omega, by go_num, HS.out.1, grown_trans HGR.out HS.out.2⟩
      case measure => simp [intOf]; omega
    · obtain rfl : j = l1 := by omega
      have hne : mix B T k j = mix B T k T.length := by rw [HT.out]
      rw [hne] at hown
      have R3 := Lib.hid (Rd.own hown)
      have B3 := Lib.hid hbr
      have RB3 := Lib.hid (RB.out.below hbr)
      have RT3 := Lib.hid (RT.out.below hbr)
      clear hown hgr hbr O2 B2 hlt hne
      have hml : (mix B T k T.length).length = l0 := by rw [mix_length _ _ _ _ (by rw [HB.out, HT.out]; omega) (Nat.le_refl _), HB.out]
      have HC := Lib.hid (mix_lt B T k T.length BB.out BT.out)
      have HML := Lib.hid hml
      clear hml
      go_wp2_with fail
      have hul : chA (ck B) ((B.drop k).take T.length) T < 65536 := by
        unfold chA
        split
        · exact Nat.lt_succ_of_le (chg_le _ _ _ (ck_le B) _)
        · exact Nat.lt_succ_of_le (ck_le B)
      have hvl : ck (mix B T k T.length) < 65536 := Nat.lt_succ_of_le (ck_le _)
      have hcl : ck B < 65536 := Nat.lt_succ_of_le (ck_le _)
      have hFl : ((B.drop k).take T.length).length ≤ 140737488351232 := by rw [List.length_take, List.length_drop, HB.out, HT.out]; omega
      have hFb : ∀ c ∈ (B.drop k).take T.length, c < 256 := fun c hc => BB.out c (List.mem_of_mem_drop (List.mem_of_mem_take hc))
      have hsub := Rd.subP RB3.out k j hkl
      obtain ⟨P, hP⟩ : ∃ P : Option Addr, (if c0 = k then some (⟨b0, o0, none⟩ : Addr) else some ⟨b0, o0 + k, none⟩) = P := ⟨_, rfl⟩
      rw [hP] at hsub
      have hc0 : l0 ≤ c0 := by obtain ⟨a', c', e, q1, q2, -⟩ := RB3.out; simp only [Value.slice.injEq, nus_length] at e q1; omega
      have hkj : IntKind.i64.wrap ((k : Int) + (j : Int)) = (k : Int) + (j : Int) := by rw [IntKind.wrap_i64]; omega
      have hkc : (0 : Int) ≤ (k : Int) + (j : Int) ∧ (k : Int) + (j : Int) ≤ (c0 : Int) := by omega
      have hkt : ((k : Int) + (j : Int)).toNat = k + j := by omega
      rw [← HT.out] at hsub
      have cB := fun d os => Calls.regrown_of (check_any _ B _ (RB3.out.below (below_regrown wr d os)) (by rw [HB.out]; omega) BB.out)
      have cC := fun d os => Calls.regrown_of (check_any _ (mix B T k T.length) _ (R3.out.below (below_regrown wr d os)) (by rw [HML.out]; omega) HC.out)
      have cH := fun d os => Calls.regrown_of (change_any (ck B) _ _ ((B.drop k).take T.length) T _ (hsub.below (below_regrown wr d os)) (RT3.out.below (below_regrown wr d os)) hFl hFb BT.out hcl)
      have cA := fun d os => Calls.regrown_of (awake_any (grow (redrawn wr d) os))
      have cS := fun d os => Calls.regrown_of ((alike_any (chA (ck B) ((B.drop k).take T.length) T) (ck (mix B T k T.length)) (grow (redrawn wr d) os) hul hvl).mono fun e w' h => And.intro h.1 (h.2 ▸ Below.refl _ _))
      rw [decide_eq_true hm.out] at cS
      rw [HT.out] at cH
      obtain ⟨u, hu⟩ : ∃ u, u = chA (ck B) ((B.drop k).take j) T := ⟨_, rfl⟩
      obtain ⟨v, hv⟩ : ∃ v, v = ck (mix B T k T.length) := ⟨_, rfl⟩
      obtain ⟨c, hc⟩ : ∃ c, c = ck B := ⟨_, rfl⟩
      rw [HT.out] at cS
      rw [HT.out] at cC hv
      rw [← hu] at cS cH
      rw [← hv] at cS cC
      rw [← hc] at cB cH
      have CB := Lib.hid cB
      have CC := Lib.hid cC
      have CH := Lib.hid cH
      have CA := Lib.hid cA
      have CS := Lib.hid cS
      clear cB cC cH cA cS hu hv hc hul hvl hcl hFl hFb hsub
      refine wp_region_quiet_below (by kernel_rfl) (by kernel_rfl) ?_
      repeat (quiet_step (first | exact CB.out _ _ | exact CC.out _ _ | exact CH.out _ _ | exact CS.out _ _ | exact CA.out _ _))
      refine wpQuiet_nil ?_
      rintro _ ⟨⟨dq, osq⟩, rfl⟩
      have B4 := B3.out.trans ((below_regrown wr dq osq).mono B3.out.size)
      go_wp2
      go_ret
      exact ⟨rfl, B4⟩

theorem rd_len {w : World} {a : Option Addr} {len cap : Nat} {k : IntKind} {bs : List Nat} (h : Rd w (.slice a len cap) (nus k bs)) : bs.length = len := by
  obtain ⟨_, _, e, _⟩ := h
  simp only [Value.slice.injEq, nus_length] at e
  exact e.2.1.symm
theorem changes_walk (a0 a1 : Option Addr) (l0 l1 c0 c1 : Nat) (B T : List Nat) (at0 : Int) (w : World) (hb : Rd w (.slice a0 l0 c0) (nus .u8 B)) (ht : Rd w (.slice a1 l1 c1) (nus .u8 T)) (hnb : a0 = none → c0 = 0)
    (bB : ∀ c ∈ B, c < 256) (bT : ∀ c ∈ T, c < 256) :
    Calls Try.prog 4 #[.slice a0 l0 c0, .int .i64 at0, .slice a1 l1 c1] w fun e w' => e = .returned (.bool true) ∧ Below w.heap.size w w' := by
  have e0 := rd_len hb
  have e1 := rd_len ht
  by_cases h : 1000 < B.length ∨ B.length < T.length ∨ T.length % 2 ≠ 0 ∨ B.length < 2
  · exact changes_no _ _ B T at0 w hb ht h
  · exact changes_yes a0 a1 l0 l1 c0 c1 B T at0 w hb ht hnb e0 e1 (by omega) (by omega) (by omega) (by omega) bB bT
end Go.Proofs.Ytjcmidgeddhfoaa
