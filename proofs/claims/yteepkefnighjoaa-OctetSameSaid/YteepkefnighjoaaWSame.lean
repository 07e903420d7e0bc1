/- The walk of OctetSame. -/
import Derived.Test.YteepkefnighjoaaOctL
import Derived.Test.YteepkefnighjoaaRow
import Derived.Test.YteepkefnighjoaaSame
namespace Go.Proofs.Yteepkefnighjoaa
open Go.RowKit

set_option maxRecDepth 100000 in
set_option maxHeartbeats 2000000 in
theorem same_walk_short (va : Value) (bs : List Nat) (at0 x cut : Int) (w : World) (hr : Rd w va (nus .u8 bs)) (h : 300 < bs.length ∨ bs.length = 0) :
    Calls Try.prog 6 #[va, .int .i64 at0, .int .u8 x, .int .i64 cut] w fun e w' => e = .returned (.bool true) ∧ Below w.heap.size w w' := by
  obtain ⟨a, cap, rfl, hlc, hc⟩ := rd_shape hr
  have HR := Lib.hid hr
  obtain ⟨len, hlen⟩ : ∃ len, len = bs.length := ⟨_, rfl⟩
  have hs := same_any (.slice none 0 0) (.slice a bs.length cap) [] bs w (rd_nil w .u8) hr
  rw [← hlen] at hlc h hs ⊢
  have HS := Lib.hid hs
  clear hr hlen hs
  unfold maxLen at hc
  rcases h with h | h
  · go_enter Try.func6, Try.ntmps6
    go_wp2_with fail
    refine HS.out.mono ?_
    rintro e w1 ⟨rfl, n, rfl⟩
    rw [show same [] bs = 0 from by simp [same]]
    go_wp2_with fail
    refine (awake_any _).mono ?_
    rintro e w2 ⟨rfl, hb⟩
    go_wp2
    go_ret
    exact ⟨rfl, (below_drewN (Below.refl w.heap.size w) n).trans (hb.mono (Nat.le_refl _))⟩
  · subst h
    go_enter Try.func6, Try.ntmps6
    go_wp2_with fail
    refine HS.out.mono ?_
    rintro e w1 ⟨rfl, n, rfl⟩
    rw [show same [] bs = 0 from by simp [same]]
    go_wp2_with fail
    refine (awake_any _).mono ?_
    rintro e w2 ⟨rfl, hb⟩
    go_wp2
    go_ret
    exact ⟨rfl, (below_drewN (Below.refl w.heap.size w) n).trans (hb.mono (Nat.le_refl _))⟩

set_option maxRecDepth 100000 in
set_option maxHeartbeats 2000000 in
theorem same_walk_long (va : Value) (bs : List Nat) (at0 cut : Int) (x : Nat) (w : World) (hr : Rd w va (nus .u8 bs)) (hb : ∀ c ∈ bs, c < 256) (hx : x < 256) (h1 : bs.length ≤ 300) (h0 : 0 < bs.length) :
    Calls Try.prog 6 #[va, .int .i64 at0, .int .u8 x, .int .i64 cut] w fun e w' => e = .returned (.bool true) ∧ Below w.heap.size w w' := by
  obtain ⟨i0, hi, hz0, hz1, hz2⟩ := info_parts Try.info5
  have HR := Lib.hid hr
  obtain ⟨a, cap, rfl, hlc, hc, hxx⟩ := hr
  rw [nus_length] at hlc hxx HR ⊢
  rcases hxx with hxx | ⟨b, off, rfl, hbs, hcell⟩
  · rw [(nus_nil _ _).1 hxx] at h0; cases h0
  obtain ⟨len, hlen⟩ : ∃ len, len = bs.length := ⟨_, rfl⟩
  rw [← hlen] at hlc h0 h1 hcell HR ⊢
  have HL := Lib.hid hlen
  have HC := Lib.hid hcell
  have HB := Lib.hid hb
  clear hlen hcell hb
  unfold maxLen at hc
  obtain ⟨k, hk, hkl⟩ : ∃ k : Nat, at0 % (len : Int) = k ∧ k < len := ⟨(at0 % (len : Int)).toNat, by have := Int.emod_nonneg at0 (show (len : Int) ≠ 0 by omega); omega, by have := Int.emod_lt_of_pos at0 (show (0 : Int) < len by omega); have := Int.emod_nonneg at0 (show (len : Int) ≠ 0 by omega); omega⟩
  obtain ⟨c, hcc, hcl⟩ : ∃ c : Nat, cut % ((len : Int) + 1) = c ∧ c ≤ len := ⟨(cut % ((len : Int) + 1)).toNat, by have := Int.emod_nonneg cut (show ((len : Int) + 1) ≠ 0 by omega); omega, by have := Int.emod_lt_of_pos cut (show (0 : Int) < (len : Int) + 1 by omega); have := Int.emod_nonneg cut (show ((len : Int) + 1) ≠ 0 by omega); omega⟩
  have HK := Lib.hid hk
  have HCC := Lib.hid hcc
  clear hk hcc
  have hne : ((len : Int) == 0) = false := by rw [beq_eq_false_iff_ne]; omega
  go_enter Try.func6, Try.ntmps6
  go_wp2_with fail
  refine (round_any at0 (len : Int) _ (by omega) (by omega)).mono ?_
  rintro e w' ⟨rfl, rfl⟩
  rw [HK.out]
  go_wp2_with fail
  refine (round_any cut ((len : Int) + 1) _ (by omega) (by omega)).mono ?_
  rintro e w' ⟨rfl, rfl⟩
  rw [HCC.out]
  have oE := own_lit w .u8 5 [] 0 w.heap.size rfl (by simp [maxLen]) (Nat.le_refl _)
  have bE := (Below.refl w.heap.size w).alloc (Nat.le_refl _) (.cells (nus .u8 []).toArray 5)
  have hsrc := (HR.out.below ((Below.refl w.heap.size w).alloc (Nat.le_refl _) (.cells (nus .u8 []).toArray 5))).src (by rw [nus_length, ← HL.out]; exact h0)
  have OE := Lib.hid oE
  have BE := Lib.hid bE
  have HS := Lib.hid hsrc
  clear oE bE hsrc
  go_wp2_with (at_builtin; refine wpList_append_own _ rfl (.tmp 35) (.tmp 36) 22 rfl w.heap.size 5 i0 (.int .u8 0) 1 1 Try.underlying22 hi hz0 hz1 hz2 rfl (by decide) _ _ _ rfl OE.out ⟨b, off, none⟩ len cap (nus .u8 bs) rfl ?c1 ?c2 ?c3 ?c4 ?c5 ?c6 ?_)
  case c1 => rw [nus_length, ← HL.out]; omega
  case c2 =>
    obtain ⟨ad, e1, e2⟩ := HS.out
    cases e1
    exact e2
  case c3 => exact oneCell_nus _ _
  case c4 => unfold maxLen; omega
  case c5 => omega
  case c6 => simp
  intro v' w1 hown hgr _
  have b1 := BE.out.grown hgr (by simp) (fun k hk => (OE.out.lt k hk).1)
  obtain ⟨g, capv, hcv, hcv2, rfl⟩ : ∃ g cap', len ≤ cap' ∧ cap' ≤ 9223372036854775807 ∧ v' = .slice (some ⟨g, 0, none⟩) len cap' := by
    rcases hown.2 with ⟨_, h⟩ | ⟨g, cap', cur, rfl, _, _, hn, hm, _⟩
    · omega
    · exact ⟨g, cap', hn, by simpa [maxLen] using hm, rfl⟩
  have hgb := (hown.lt g rfl).1
  have ck := hown.cellAt k (by omega)
  rw [show (nus .u8 [] ++ nus .u8 bs : List Value) = nus .u8 bs from rfl] at ck hown
  rw [nus_get _ _ _ (by rw [← HL.out]; exact hkl)] at ck
  have fk := hown.frozenAt k
  obtain ⟨y, hy⟩ : ∃ y, y = bs.getD k 0 := ⟨_, rfl⟩
  have hyb := getD_lt bs HB.out k
  rw [← hy] at ck hyb
  have HY := Lib.hid hy
  have O1 := Lib.hid hown
  have B1 := Lib.hid b1
  clear hown hgr b1 hy OE BE HS
  go_wp2_with fail
  have st := O1.out.stored k (.int .u8 ((y ^^^ (x ||| 1) : Nat) : Int))
  rw [nus_set] at st
  rw [bits_turn y x hyb hx]
  have b2 := B1.out.setCell (p := ⟨g, k, none⟩) hgb (.int .u8 ((y ^^^ (x ||| 1) : Nat) : Int))
  have ra := HR.out.below b2
  have rb := Rd.own st.1
  generalize hW : w1.setCell ⟨g, k, none⟩ (.int .u8 ((y ^^^ (x ||| 1) : Nat) : Int)) = W2 at b2 ra rb ⊢
  obtain ⟨q, hqe⟩ : ∃ q, q = y ^^^ (x ||| 1) := ⟨_, rfl⟩
  rw [← hqe] at rb
  have hq' : q ≠ bs.getD k 0 := by rw [← HY.out, hqe]; exact xor_or_ne y x
  have hkb : k < bs.length := by rw [← HL.out]; exact hkl
  have hcb : c ≤ bs.length := by rw [← HL.out]; exact hcl
  have S1 := Lib.hid (same_set bs k q hkb hq')
  have S2 := Lib.hid (same_set' bs k q hkb hq')
  have S3 := Lib.hid (same_self bs)
  have S4 := Lib.hid (same_take bs c hcb)
  have S5 := Lib.hid (same_set_take bs k q c hkb hcb hq')
  have RA := Lib.hid ra
  have RB := Lib.hid rb
  have RA4 := Lib.hid (ra.cut c hcl)
  have RB5 := Lib.hid (rb.cut c (by omega))
  have B2 := Lib.hid b2
  clear hW st hqe hq' hkb hcb ra rb b2 ck fk O1 B1 HY
  refine (same_any _ _ bs (bs.set k q) W2 RA.out RB.out).mono ?_
  rintro e w' ⟨rfl, n1, rfl⟩
  rw [S1.out]
  go_wp2_with fail
  refine (same_any _ _ (bs.set k q) bs _ (RB.out.drew n1) (RA.out.drew n1)).mono ?_
  rintro e w' ⟨rfl, n2, rfl⟩
  rw [S2.out, World.drewN_drewN]
  go_wp2_with fail
  refine (same_any _ _ bs bs _ (RA.out.drew _) (RA.out.drew _)).mono ?_
  rintro e w' ⟨rfl, n3, rfl⟩
  rw [S3.out, World.drewN_drewN, ← HL.out]
  go_wp2_with fail
  refine (same_any _ _ bs (bs.take c) _ (RA.out.drew _) (RA4.out.drew _)).mono ?_
  rintro e w' ⟨rfl, n4, rfl⟩
  rw [S4.out, World.drewN_drewN]
  go_wp2_with fail
  refine (same_any _ _ ((bs.set k q).take c) bs _ (RB5.out.drew _) (RA.out.drew _)).mono ?_
  rintro e w' ⟨rfl, n5, rfl⟩
  rw [S5.out, World.drewN_drewN]
  rcases Nat.lt_or_ge k c with hkc | hkc
  · rw [Nat.min_eq_right (Nat.le_of_lt hkc)]
    go_wp2_with fail
    refine (awake_any _).mono ?_
    rintro e w3 ⟨rfl, hb3⟩
    go_wp2
    go_ret
    exact ⟨rfl, (below_drewN B2.out _).trans (hb3.mono (below_drewN B2.out _).size)⟩
  · rw [Nat.min_eq_left hkc]
    go_wp2_with fail
    refine (awake_any _).mono ?_
    rintro e w3 ⟨rfl, hb3⟩
    go_wp2
    go_ret
    exact ⟨rfl, (below_drewN B2.out _).trans (hb3.mono (below_drewN B2.out _).size)⟩

theorem same_walk (va : Value) (bs : List Nat) (at0 cut : Int) (x : Nat) (w : World) (hr : Rd w va (nus .u8 bs)) (hb : ∀ c ∈ bs, c < 256) (hx : x < 256) :
    Calls Try.prog 6 #[va, .int .i64 at0, .int .u8 x, .int .i64 cut] w fun e w' => e = .returned (.bool true) ∧ Below w.heap.size w w' := by
  by_cases h : 300 < bs.length ∨ bs.length = 0
  · exact same_walk_short va bs at0 x cut w hr h
  · exact same_walk_long va bs at0 cut x w hr hb hx (by omega) (by omega)
end Go.Proofs.Yteepkefnighjoaa
