/- The walk of SumBits. -/
import Derived.Test.YtjcmidgeddhfoabCW
import Derived.Test.YtjcmidgeddhfoabAp
import Derived.Test.YtjcmidgeddhfoabRnd
import Derived.Lib.QuietBelow
import Derived.StillTailTactics
namespace Go.Proofs.Ytjcmidgeddhfoab
open Go.RowKit Go.Sort

theorem turn_bit : ∀ (y : Fin 256) (t : Fin 8), (y.1 ^^^ 2 ^ t.1 = y.1 + 2 ^ t.1 ∨ (y.1 ^^^ 2 ^ t.1) + 2 ^ t.1 = y.1) ∧ y.1 ^^^ 2 ^ t.1 < 256 := by decide +kernel
theorem pow_t : ∀ t : Fin 8, 1 ≤ 2 ^ t.1 ∧ 2 ^ t.1 ≤ 128 := by decide
theorem turned (B : List Nat) (i t : Nat) (hi : i < B.length) (ht : t < 8) (hB : ∀ c ∈ B, c < 256) : ck (B.set i (B.getD i 0 ^^^ 2 ^ t)) ≠ ck B := by
  have hy := getD_lt B hB i
  have hs := wsp_set B 0 i (B.getD i 0 ^^^ 2 ^ t) hi
  have hb := (turn_bit ⟨B.getD i 0, hy⟩ ⟨t, ht⟩).1
  have hp := pow_t ⟨t, ht⟩
  simp only at hb hp
  intro he
  have g1 := gr_le (wsp 0 (B.set i (B.getD i 0 ^^^ 2 ^ t)))
  have g2 := gr_le (wsp 0 B)
  have g3 := gr_mod (wsp 0 (B.set i (B.getD i 0 ^^^ 2 ^ t)))
  have g4 := gr_mod (wsp 0 B)
  unfold ck at he
  generalize 2 ^ t = p at *
  generalize B.getD i 0 = y at *
  generalize y ^^^ p = z at *
  generalize wsp 0 (B.set i z) = u at *
  generalize wsp 0 B = v at *
  rcases (show wt (0 + i) = 256 ∨ wt (0 + i) = 1 from by unfold wt; split <;> simp) with e | e <;> rw [e] at hs <;> rcases hb with hb | hb <;> omega
theorem xor_val (y t : Nat) (hy : y < 256) (ht : t < 8) : bits .xor .u8 (y : Int) ((2 ^ t : Nat) : Int) = ((y ^^^ 2 ^ t : Nat) : Int) :=
  u8_xor_nat _ _ hy (by have := (pow_t ⟨t, ht⟩).2; simp only at this; omega)
theorem xor_val' (y t : Nat) (hy : y < 256) (ht : t < 8) : bits .xor .u8 (y : Int) ((2 : Int) ^ t % 256) = ((y ^^^ 2 ^ t : Nat) : Int) := by
  have hp := (pow_t ⟨t, ht⟩).2
  simp only at hp
  have e : (2 : Int) ^ t = ((2 ^ t : Nat) : Int) := by simp
  have hm : ((2 ^ t : Nat) : Int) % 256 = ((2 ^ t : Nat) : Int) := by
    generalize (2 ^ t : Nat) = p at hp
    omega
  rw [← xor_val y t hy ht, e, hm]
theorem xor_lt' (y t : Nat) (hy : y < 256) (ht : t < 8) : y ^^^ 2 ^ t < 256 := (turn_bit ⟨y, hy⟩ ⟨t, ht⟩).2
theorem set_lt (B : List Nat) (i z : Nat) (hB : ∀ c ∈ B, c < 256) (hz : z < 256) : ∀ c ∈ B.set i z, c < 256 := by
  intro c hc
  rcases List.mem_or_eq_of_mem_set hc with h | h
  · exact hB c h
  · omega
theorem mem_snoc0 (B : List Nat) (hB : ∀ c ∈ B, c < 256) : ∀ c ∈ B ++ [0], c < 256 := by
  intro c hc
  rcases List.mem_append.1 hc with h | h
  · exact hB c h
  · simp at h; omega
theorem ck_snoc0 (B : List Nat) : ck (B ++ [0]) = ck B := by unfold ck; rw [wsp_append]; simp [wsp]
theorem ck_sum (B : List Nat) : ck B + gr (wsp 0 B) = 65535 := by have := gr_le (wsp 0 B); unfold ck; omega
theorem own_some {w : World} {base n : Nat} {e : TypeId} {v : Value} {xs : List Value} (h : w.ownsRow base e 1 v n xs) (h0 : 0 < n) : ∃ g cap, v = .slice (some ⟨g, 0, none⟩) n cap ∧ n ≤ cap ∧ cap ≤ maxLen ∧ base ≤ g := by
  rcases h.2 with ⟨rfl, rfl⟩ | ⟨g, cap, cur, rfl, hg, hh, hn, hm, hs, ht⟩
  · omega
  · exact ⟨g, cap, rfl, hn, hm, hg⟩
theorem nus_set (k : IntKind) (zs : List Nat) (i n : Nat) : (nus k zs).set i (.int k (n : Int)) = nus k (zs.set i n) := by simp [nus, List.map_set]

set_option maxRecDepth 100000 in
set_option maxHeartbeats 2000000 in
theorem bits_no (vb : Value) (B : List Nat) (at0 bit : Int) (w : World) (hb : Rd w vb (nus .u8 B)) (hno : B.length < 1 ∨ 1000 < B.length) :
    Calls Try.prog 4 #[vb, .int .i64 at0, .int .i64 bit] w fun e w' => e = .returned (.bool true) ∧ Below w.heap.size w w' := by
  obtain ⟨a0, c0, rfl, h0, k0, -⟩ := hb
  rw [nus_length] at h0
  rw [nus_length]
  unfold maxLen at k0
  generalize B.length = l0 at *
  go_enter Try.func4, Try.ntmps4
  rcases hno with g0 | g0
  · go_wp2_with fail
    refine (awake_any _).mono ?_
    rintro e w2 ⟨rfl, hb⟩
    go_wp2
    go_ret
    exact ⟨rfl, hb⟩
  · go_wp2_with fail
    refine (awake_any _).mono ?_
    rintro e w2 ⟨rfl, hb⟩
    go_wp2
    go_ret
    exact ⟨rfl, hb⟩

set_option maxRecDepth 100000 in
set_option maxHeartbeats 2000000 in
theorem bits_yes (a0 : Option Addr) (l0 c0 : Nat) (B : List Nat) (at0 bit : Int) (w : World) (hb : Rd w (.slice a0 l0 c0) (nus .u8 B)) (hnb : a0 = none → c0 = 0)
    (hB : B.length = l0) (h0 : 1 ≤ l0) (h1 : l0 ≤ 1000) (bB : ∀ c ∈ B, c < 256) :
    Calls Try.prog 4 #[.slice a0 l0 c0, .int .i64 at0, .int .i64 bit] w fun e w' => e = .returned (.bool true) ∧ Below w.heap.size w w' := by
  obtain ⟨i, hi, hil⟩ : ∃ i : Nat, at0 % (l0 : Int) = i ∧ i < l0 := ⟨(at0 % (l0 : Int)).toNat, by have := Int.emod_nonneg at0 (show (l0 : Int) ≠ 0 by omega); omega, by have := Int.emod_lt_of_pos at0 (show (0 : Int) < (l0 : Int) by omega); have := Int.emod_nonneg at0 (show (l0 : Int) ≠ 0 by omega); omega⟩
  obtain ⟨t, ht, htl⟩ : ∃ t : Nat, bit % 8 = t ∧ t < 8 := ⟨(bit % 8).toNat, by omega, by omega⟩
  have hturn := Lib.hid (turned B i t (by omega) htl bB)
  have C1 := fun W : World => (round_any at0 l0 W (by omega) (by omega)).mono (fun e w' h => And.intro h.1 h.2.symm)
  have C2 := fun W : World => (round_any bit 8 W (by omega) (by omega)).mono (fun e w' h => And.intro h.1 h.2.symm)
  rw [hi] at C1
  rw [ht] at C2
  have HC1 := Lib.hid C1
  have HC2 := Lib.hid C2
  have RB := Lib.hid hb
  have HB := Lib.hid hB
  have NB := Lib.hid hnb
  have BB := Lib.hid bB
  clear hb hB hnb bB C1 C2 hi ht
  go_enter Try.func4, Try.ntmps4
  have b1 := (Below.refl w.heap.size w).alloc (Nat.le_refl _) (.cells #[] 5)
  have o1 := own_none w 5
  have RB1 := Lib.hid (RB.out.below b1)
  have O1 := Lib.hid o1
  have B1 := Lib.hid b1
  clear o1 b1
  go_wp2_with (at_builtin; refine wpList_app rfl (.tmp 17) (.tmp 18) rfl w.heap.size _ 0 [] rfl O1.out a0 l0 c0 B rfl RB1.out NB.out ?c2 ?c3 ?c4)
  case c2 => omega
  case c3 => simp
  intro v2 w2 o2 g2
  have b2 := B1.out.grown g2 B1.out.size (fun k e => by cases e; exact Nat.le_refl _)
  obtain ⟨g, cap, rfl, hcap, hcm, hgb⟩ := own_some o2 (by omega)
  unfold maxLen at hcm
  have B2 := Lib.hid b2
  have O2 := Lib.hid o2
  clear o2 g2 b2 O1 B1 RB1
  go_wp2_with fail
  have hcell := O2.out.cellAt i (by omega)
  rw [nus_get _ _ _ (by rw [HB.out]; exact hil)] at hcell
  have hfz := O2.out.frozenAt i
  have hy := getD_lt B BB.out i
  obtain ⟨y, hye⟩ : ∃ y, y = B.getD i 0 := ⟨_, rfl⟩
  have HY := Lib.hid hye
  rw [← hye] at hcell hy
  clear hye
  refine wp_region_still_tail 12 (by kernel_rfl) (by kernel_rfl) ?_
  simp only [List.take_succ_cons, List.take_zero, List.drop_succ_cons, List.drop_zero]
  still_step
  still_step
  still_step
  still_step
  still_call (HC1.out _)
  still_step
  still_step
  still_step
  still_call (HC2.out _)
  still_step
  still_step
  still_step
  refine wpStill_nil ?_
  change wpList _ _ _ _ _ w2.drew
  have hcell3 : w2.drew.cell? ⟨g, i, none⟩ = some (.int .u8 (y : Int)) := hcell
  have hfz3 : w2.drew.frozen? ⟨g, i, none⟩ = false := hfz
  have O3 := Lib.hid O2.out.drew
  have B3 := Lib.hid B2.out.drew
  generalize w2.drew = w3 at hcell3 hfz3 O3 B3 ⊢
  clear hcell hfz O2 B2
  have hxv := Lib.hid (xor_val' y t hy htl)
  have hzl := xor_lt' y t hy htl
  rw [← HY.out] at hturn
  obtain ⟨z, hz⟩ : ∃ z, z = y ^^^ 2 ^ t := ⟨_, rfl⟩
  rw [← hz] at hxv hzl hturn
  go_wp2_with fail
  rw [hxv.out]
  have hst := O3.out.stored i (.int .u8 (z : Int))
  rw [nus_set] at hst
  have b4 := B3.out.grown hst.2 B3.out.size (fun k e => by cases e; exact hgb)
  have R4 := Lib.hid (Rd.own hst.1)
  have RB4 := Lib.hid (RB.out.below b4)
  have B4 := Lib.hid b4
  generalize w3.setCell ⟨g, i, none⟩ (.int .u8 (z : Int)) = w4 at R4 RB4 B4 hst b4 ⊢
  clear hst b4 hcell3 hfz3 O3 B3 HC1 HC2 HY hxv hz
  refine (check_any _ (B.set i z) _ R4.out (by rw [List.length_set, HB.out]; omega) (set_lt B i z BB.out hzl)).mono ?_
  rintro e w5 ⟨rfl, hb5⟩
  have RB5 := Lib.hid (RB4.out.below hb5)
  have B5 := Lib.hid (B4.out.trans (hb5.mono B4.out.size))
  have hul := ck_le (B.set i z)
  have hcl := ck_le B
  obtain ⟨u, hu⟩ : ∃ u, u = ck (B.set i z) := ⟨_, rfl⟩
  have hc5 := fun W (hR : Rd W (.slice a0 l0 c0) (nus .u8 B)) => check_any _ B W hR (by rw [HB.out]; omega) BB.out
  have hcs := ck_sum B
  have hc0 : ck (B ++ [0]) = ck B := ck_snoc0 B
  obtain ⟨c, hc⟩ : ∃ c, c = ck B := ⟨_, rfl⟩
  rw [← hu] at hturn hul ⊢
  rw [← hc] at hturn hcl hc5 hcs hc0
  have HC5 := Lib.hid hc5
  have HCS := Lib.hid hcs
  have HC0 := Lib.hid hc0
  have hne : (((u : Int)) != ((c : Int))) = true := by rw [bne_iff_ne]; have := hturn.out; omega
  clear hb5 R4 RB4 B4 hu hc hc5 hcs hc0 hturn
  go_wp2_with fail
  refine (HC5.out _ RB5.out).mono ?_
  rintro e w6 ⟨rfl, hb6⟩
  have RB6 := Lib.hid (RB5.out.below hb6)
  have B6 := Lib.hid (B5.out.trans (hb6.mono B5.out.size))
  clear hb6 RB5 B5
  have b7 := B6.out.alloc B6.out.size (.cells #[] 5)
  have RB7 := Lib.hid (RB6.out.below ((Below.refl w6.heap.size w6).alloc (Nat.le_refl _) (.cells #[] 5)))
  have o7 := own_none w6 5
  have O7 := Lib.hid o7
  have B7 := Lib.hid b7
  have hs6 := B6.out.size
  clear o7 b7
  go_wp2_with (at_builtin; refine wpList_app (by kernel_rfl) (.tmp 38) (.tmp 39) rfl w6.heap.size _ 0 [] rfl O7.out a0 l0 c0 B rfl RB7.out NB.out ?d2 ?d3 ?d4)
  case d2 => omega
  case d3 => simp
  intro v8 w8 o8 g8
  have b8 := B7.out.grown g8 B7.out.size (fun k e => by cases e; exact hs6)
  have RB8 := Lib.hid (RB6.out.below ((Below.refl w6.heap.size w6).alloc (Nat.le_refl _) (.cells #[] 5) |>.grown g8 (by simp) (fun k e => by cases e; exact Nat.le_refl _)))
  have b9 := b8.alloc b8.size (.cells (nus .u8 [0]).toArray 5)
  have r9 := rd_lit w8 .u8 5 [0] 1 (0, 0) rfl (by simp [maxLen])
  have o9 := o8.alloc (.cells (nus .u8 [0]).toArray 5)
  have RB9 := Lib.hid (RB8.out.below ((Below.refl w8.heap.size w8).alloc (Nat.le_refl _) (.cells (nus .u8 [0]).toArray 5)))
  have hs8 : w6.heap.size ≤ w8.heap.size := by have := g8.size; simp at this; omega
  have O9 := Lib.hid o9
  have R9 := Lib.hid r9
  have B9 := Lib.hid b9
  clear o8 g8 b8 b9 r9 o9 O7 B7 RB7 RB8 RB6 B6
  go_wp2_with (at_builtin; refine wpList_app (by kernel_rfl) (.tmp 40) (.tmp 41) rfl w6.heap.size _ l0 B rfl O9.out (some ⟨w8.heap.size, 0, none⟩) 1 1 [0] rfl R9.out (fun h => by cases h) ?e2 ?e3 ?e4)
  case e2 => omega
  case e3 => simp; omega
  intro v10 w10 o10 g10
  have b10 := B9.out.grown g10 B9.out.size (fun k e => Nat.le_trans hs6 ((O9.out.lt k e).1))
  have R10 := Lib.hid (Rd.own o10)
  have B10 := Lib.hid b10
  have RB10 := Lib.hid (RB.out.below b10)
  have hv10 := Rd.own o10
  obtain ⟨a10, c10, rfl, -, -, -⟩ := hv10
  clear o10 g10 b10 O9 B9 RB9 R9
  go_wp2_with fail
  refine (check_any _ (B ++ [0]) _ R10.out (by rw [List.length_append, HB.out]; simp; omega) (mem_snoc0 B BB.out)).mono ?_
  rintro e w11 ⟨rfl, hb11⟩
  rw [HC0.out]
  have RB11 := Lib.hid (RB10.out.below hb11)
  have B11 := Lib.hid (B10.out.trans (hb11.mono B10.out.size))
  clear hb11 RB10 B10 R10
  go_wp2_with fail
  refine (HC5.out _ RB11.out).mono ?_
  rintro e w12 ⟨rfl, hb12⟩
  have RB12 := Lib.hid (RB11.out.below hb12)
  have B12 := Lib.hid (B11.out.trans (hb12.mono B11.out.size))
  clear hb12 RB11 B11
  go_wp2_with fail
  refine (HC5.out _ RB12.out).mono ?_
  rintro e w13 ⟨rfl, hb13⟩
  have RB13 := Lib.hid (RB12.out.below hb13)
  have B13 := Lib.hid (B12.out.trans (hb13.mono B12.out.size))
  clear hb13 RB12 B12
  go_wp2_with fail
  refine (sum_any _ B 0 _ RB13.out (by rw [HB.out]; omega) BB.out (by omega)).mono ?_
  rintro e w14 ⟨rfl, hb14⟩
  rw [Nat.zero_add]
  have B14 := Lib.hid (B13.out.trans (hb14.mono B13.out.size))
  obtain ⟨s, hs⟩ : ∃ s, s = gr (wsp 0 B) := ⟨_, rfl⟩
  have hsum := HCS.out
  rw [← hs] at hsum ⊢
  have hsl : s ≤ 65535 := by omega
  have hsi : (c : Int) + (s : Int) = 65535 := by omega
  clear hb14 RB13 B13 hs HCS hsum
  go_wp2_with fail
  refine (awake_any _).mono ?_
  rintro e w15 ⟨rfl, hb15⟩
  go_wp2
  go_ret
  exact ⟨rfl, B14.out.trans (hb15.mono B14.out.size)⟩

theorem rd_len {w : World} {a : Option Addr} {len cap : Nat} {k : IntKind} {bs : List Nat} (h : Rd w (.slice a len cap) (nus k bs)) : bs.length = len := by
  obtain ⟨_, _, e, _⟩ := h
  simp only [Value.slice.injEq, nus_length] at e
  exact e.2.1.symm
theorem bits_walk (a0 : Option Addr) (l0 c0 : Nat) (B : List Nat) (at0 bit : Int) (w : World) (hb : Rd w (.slice a0 l0 c0) (nus .u8 B)) (hnb : a0 = none → c0 = 0) (bB : ∀ c ∈ B, c < 256) :
    Calls Try.prog 4 #[.slice a0 l0 c0, .int .i64 at0, .int .i64 bit] w fun e w' => e = .returned (.bool true) ∧ Below w.heap.size w w' := by
  have e0 := rd_len hb
  by_cases h : B.length < 1 ∨ 1000 < B.length
  · exact bits_no _ B at0 bit w hb h
  · exact bits_yes a0 l0 c0 B at0 bit w hb hnb e0 (by omega) (by omega) bB
end Go.Proofs.Ytjcmidgeddhfoab
