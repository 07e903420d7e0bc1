/- The walk of OctetWords. -/
import Derived.Test.YteepkefnighjoaaOctL
import Derived.Test.YteepkefnighjoaaRow
import Derived.Test.YteepkefnighjoaaSame
namespace Go.Proofs.Yteepkefnighjoaa
open Go.RowKit

set_option maxRecDepth 100000 in
set_option maxHeartbeats 2000000 in
theorem words_walk_long (va : Value) (bs : List Nat) (most : Int) (w : World) (_hr : Rd w va (nus .u8 bs)) (h : 300 < bs.length) :
    Calls Try.prog 5 #[va, .int .i64 most] w fun e w' => e = .returned (.bool true) ∧ Below w.heap.size w w' := by
  obtain ⟨a, cap, rfl, hlc, hc, _⟩ := _hr
  rw [nus_length] at hlc ⊢
  unfold maxLen at hc
  go_enter Try.func5, Try.ntmps5
  go_wp2_with fail
  refine (awake_any _).mono ?_
  rintro e w2 ⟨rfl, hb⟩
  go_wp2
  go_ret
  exact ⟨rfl, hb⟩

theorem even_getD (bs : List Nat) (i : Nat) : (even bs).getD i 0 = bs.getD i 0 := by
  unfold even
  rw [List.getD_eq_getElem?_getD, List.getD_eq_getElem?_getD]
  by_cases h : i < bs.length
  · rw [List.getElem?_append_left h]
  · rw [List.getElem?_append_right (by omega), List.getElem?_eq_none (show bs.length ≤ i by omega), List.getElem?_replicate]
    split <;> rfl
theorem be_two (E : List Nat) (k : Nat) (h : k + 2 ≤ E.length) : be ((E.drop k).take 2) = E.getD k 0 * 256 + E.getD (k + 1) 0 := by
  rw [be_step E k 1 (by omega), be_step E k 0 (by omega)]
  simp [be]
theorem wd_val (bs : List Nat) (j : Nat) (h : 2 * j < bs.length) : be (((even bs).drop (2 * j)).take 2) = bs.getD (2 * j) 0 * 256 + bs.getD (2 * j + 1) 0 := by
  rw [be_two _ _ (by rw [even_length]; omega), even_getD, even_getD]
theorem or16 (p q : Nat) (hp : p < 256) (hq : q < 256) : bits .or .u16 ((p : Int) * 256) (q : Int) = ((p * 256 + q : Nat) : Int) := by
  have e : (p : Int) * 256 = ((p * 256 : Nat) : Int) := by omega
  rw [e, u16_or_nat _ _ (by omega) (by omega), nat_join 8 (p * 256) q (by omega) (by omega)]
theorem wds_length (zs : List Nat) (k : Nat) : (wds zs k).length = k := upto_length _ _
theorem wds_fst (zs : List Nat) (k j : Nat) (h : j < k) : ((wds zs k).map Prod.fst).getD j 0 = 2 * j := by
  simp [wds, upto, wd, List.getD_eq_getElem?_getD, h]
theorem wds_snd (zs : List Nat) (k j : Nat) (h : j < k) : ((wds zs k).map Prod.snd).getD j 0 = be (((even zs).drop (2 * j)).take 2) := by
  simp [wds, upto, wd, List.getD_eq_getElem?_getD, h]

set_option maxRecDepth 100000 in
set_option maxHeartbeats 4000000 in
theorem words_walk_short (va : Value) (bs : List Nat) (most : Int) (w : World) (hr : Rd w va (nus .u8 bs)) (hb : ∀ c ∈ bs, c < 256) (h1 : bs.length ≤ 300) :
    Calls Try.prog 5 #[va, .int .i64 most] w fun e w' => e = .returned (.bool true) ∧ Below w.heap.size w w' := by
  have HR := Lib.hid hr
  obtain ⟨a, cap, rfl, hlc, hc, hxx⟩ := hr
  rw [nus_length] at hlc hxx HR ⊢
  obtain ⟨len, hlen⟩ : ∃ len, len = bs.length := ⟨_, rfl⟩
  rw [← hlen] at hlc h1 hxx HR ⊢
  have HL := Lib.hid hlen
  have HX := Lib.hid hxx
  have HB := Lib.hid hb
  clear hlen hxx hb
  unfold maxLen at hc
  obtain ⟨k, hk, hkl⟩ : ∃ k : Nat, most % ((len : Int) + 1) = k ∧ k ≤ len := ⟨(most % ((len : Int) + 1)).toNat, by have := Int.emod_nonneg most (show ((len : Int) + 1) ≠ 0 by omega); omega, by have := Int.emod_lt_of_pos most (show (0 : Int) < (len : Int) + 1 by omega); have := Int.emod_nonneg most (show ((len : Int) + 1) ≠ 0 by omega); omega⟩
  have HK := Lib.hid hk
  clear hk
  obtain ⟨m, hm⟩ : ∃ m, m = nw bs := ⟨_, rfl⟩
  have hm2 : m = (len + 1) / 2 := by rw [hm, HL.out]; rfl
  have HM := Lib.hid hm
  have hmv : ((len : Int) + 1) / 2 = (m : Int) := by omega
  have hml : m ≤ len := by omega
  have hm2m : len ≤ 2 * m ∧ 2 * m ≤ len + 1 := by omega
  have HM2 := Lib.hid hm2
  clear hm hm2
  go_enter Try.func5, Try.ntmps5
  go_wp2_with fail
  refine (two_all _ bs (-1) w HR.out (by rw [← HL.out]; omega) HB.out).mono ?_
  rintro e W1 ⟨x1, y1, rfl, rx1, ry1, b1⟩
  rw [show cnt (nw bs) (-1) = m from by rw [HM.out]; rfl] at rx1 ry1
  go_wp2_with fail
  refine (round_any most ((len : Int) + 1) _ (by omega) (by omega)).mono ?_
  rintro e w' ⟨rfl, rfl⟩
  rw [HK.out]
  go_wp2_with fail
  refine (two_all _ bs (k : Int) W1 (HR.out.below b1) (by rw [← HL.out]; omega) HB.out).mono ?_
  rintro e W2 ⟨x2, y2, rfl, rx2, ry2, b2⟩
  obtain ⟨kk, hkk⟩ : ∃ kk, kk = cnt (nw bs) (k : Int) := ⟨_, rfl⟩
  rw [← hkk] at rx2 ry2
  have hkk2 : (kk : Int) = (if (m : Int) < (k : Int) then (m : Int) else (k : Int)) := by
    rw [hkk]; unfold cnt; rw [← HM.out]; split <;> split <;> omega
  have hkm : kk ≤ m := by split at hkk2 <;> omega
  have rx1' := rx1.below b2
  have ry1' := ry1.below b2
  have bb := b1.trans (b2.mono b1.size)
  have ra := (HR.out.below b1).below b2
  obtain ⟨a1, c1, e1, _, _⟩ := rd_shape rx1'
  obtain ⟨a2, c2, e2, _, _⟩ := rd_shape ry1'
  obtain ⟨a3, c3, e3, _, _⟩ := rd_shape rx2
  obtain ⟨a4, c4, e4, _, _⟩ := rd_shape ry2
  rw [List.length_map, wds_length] at e1 e2 e3 e4
  subst e1 e2 e3 e4
  have F1 := Lib.hid rx1'
  have F2 := Lib.hid ry1'
  have F3 := Lib.hid rx2
  have F4 := Lib.hid ry2
  have BB := Lib.hid bb
  have RA := Lib.hid ra
  have HKK := Lib.hid hkk2
  clear rx1 ry1 rx1' ry1' rx2 ry2 b1 b2 hkk hkk2 bb ra
  have hsplit : (m < k ∧ ((kk : Int) != (m : Int)) = false) ∨ (k ≤ m ∧ ((kk : Int) != (k : Int)) = false) := by
    have h := HKK.out
    split at h
    · exact .inl ⟨by omega, by rw [bne_eq_false_iff_eq]; exact h⟩
    · exact .inr ⟨by omega, by rw [bne_eq_false_iff_eq]; exact h⟩
  have hmm : ((m : Int) != (m : Int)) = false := by simp
  rcases hsplit with ⟨hs1, hs2⟩ | ⟨hs1, hs2⟩
  all_goals
    go_wp2_with fail
    clear hs1 hs2
    go_loopw [10] (fun i wr => ∃ j n : Nat, j ≤ m ∧ i = .int .i64 j ∧ wr = W2.drewN n) (fun i _ => m - (intOf i).toNat)
    case atStart => exact ⟨0, 0, Nat.zero_le _, rfl, rfl⟩
    case round =>
      obtain ⟨j, n, hj, rfl, rfl⟩ := hrel
      by_cases hlt : j < m
      · have hl2 : 2 * j < len := by omega
        obtain ⟨b0, o0, rfl, g0⟩ := RA.out.cells (by omega)
        obtain ⟨d1, o1, rfl, g1⟩ := F1.out.cells (by omega)
        obtain ⟨d2, o2, rfl, g2⟩ := F2.out.cells (by omega)
        have p0 := g0 (2 * j) hl2
        have p1 := g1 j hlt
        have p2 := g2 j hlt
        rw [wds_fst _ _ _ hlt] at p1
        rw [wds_snd _ _ _ hlt] at p2
        rw [wd_val bs j (by rw [← HL.out]; exact hl2)] at p2
        have e2j : ((2 * j : Nat) : Int) = 2 * (j : Int) := by omega
        rw [e2j] at p1
        have E2 := Lib.hid e2j
        clear e2j
        have hbp := getD_lt bs HB.out (2 * j)
        have hbq := getD_lt bs HB.out (2 * j + 1)
        have G0 := Lib.hid g0
        have G1 := Lib.hid g1
        have G2 := Lib.hid g2
        obtain ⟨p, hp⟩ : ∃ p, p = bs.getD (2 * j) 0 := ⟨_, rfl⟩
        obtain ⟨q, hq⟩ : ∃ q, q = bs.getD (2 * j + 1) 0 := ⟨_, rfl⟩
        rw [← hp] at p0 p2 hbp
        rw [← hq] at p2 hbq
        have HQ := Lib.hid hq
        have HP := Lib.hid hp
        clear g0 g1 g2 hp hq
        by_cases h2 : 2 * j + 1 < len
        · have q0 := G0.out (2 * j + 1) h2
          rw [← HQ.out] at q0
          rw [← or16 p q hbp hbq] at p2
          by_cases h3 : j < kk
          · obtain ⟨d3, o3, rfl, g3⟩ := F3.out.cells (by omega)
            obtain ⟨d4, o4, rfl, g4⟩ := F4.out.cells (by omega)
            have p3 := g3 j h3
            have p4 := g4 j h3
            rw [wds_fst _ _ _ h3, E2.out] at p3
            rw [wds_snd _ _ _ h3, wd_val bs j (by rw [← HL.out]; exact hl2), ← HQ.out, ← HP.out, ← or16 p q hbp hbq] at p4
            clear g3 g4
            go_wp2
            go_quiet (fail)
            go_wp2
            go_roundw
            case rel => exact ⟨j + 1, _, by omega, by go_num, rfl⟩
            case measure => simp [intOf]; omega
          · have hkd : decide (j < kk) = false := by simp; omega
            clear h3
            go_wp2
            go_quiet (fail)
            go_wp2
            go_roundw
            case rel => exact ⟨j + 1, _, by omega, by go_num, rfl⟩
            case measure => simp [intOf]; omega
        · have hq0 : q = 0 := by
            rw [HQ.out, List.getD_eq_getElem?_getD, List.getElem?_eq_none (by rw [← HL.out]; omega)]; rfl
          have eqp : ((p * 256 : Nat) : Int) = (p : Int) * 256 := by omega
          rw [hq0, Nat.add_zero, eqp] at p2
          have EQ := Lib.hid eqp
          have Q0 := Lib.hid hq0
          clear eqp hq0
          by_cases h3 : j < kk
          · obtain ⟨d3, o3, rfl, g3⟩ := F3.out.cells (by omega)
            obtain ⟨d4, o4, rfl, g4⟩ := F4.out.cells (by omega)
            have p3 := g3 j h3
            have p4 := g4 j h3
            rw [wds_fst _ _ _ h3, E2.out] at p3
            rw [wds_snd _ _ _ h3, wd_val bs j (by rw [← HL.out]; exact hl2), ← HQ.out, ← HP.out, Q0.out, Nat.add_zero, EQ.out] at p4
            clear g3 g4
            go_wp2
            go_quiet (fail)
            go_wp2
            go_roundw
            case rel => exact ⟨j + 1, _, by omega, by go_num, rfl⟩
            case measure => simp [intOf]; omega
          · have hkd : decide (j < kk) = false := by simp; omega
            clear h3
            go_wp2
            go_quiet (fail)
            go_wp2
            go_roundw
            case rel => exact ⟨j + 1, _, by omega, by go_num, rfl⟩
            case measure => simp [intOf]; omega
      · obtain rfl : j = m := by omega
        clear hlt
        go_wp2_with fail
        refine (awake_any _).mono ?_
        rintro e w3 ⟨rfl, hb3⟩
        go_wp2
        go_ret
        exact ⟨rfl, (below_drewN BB.out _).trans (hb3.mono (below_drewN BB.out _).size)⟩

theorem words_walk (va : Value) (bs : List Nat) (most : Int) (w : World) (hr : Rd w va (nus .u8 bs)) (hb : ∀ c ∈ bs, c < 256) :
    Calls Try.prog 5 #[va, .int .i64 most] w fun e w' => e = .returned (.bool true) ∧ Below w.heap.size w w' := by
  by_cases h : 300 < bs.length
  · exact words_walk_long va bs most w hr h
  · exact words_walk_short va bs most w hr hb (by omega)
end Go.Proofs.Yteepkefnighjoaa
