/- The walk of SumParts. -/
import Derived.Test.YtjcmidgeddhfoabCW
import Derived.Test.YtjcmidgeddhfoabAp
namespace Go.Proofs.Ytjcmidgeddhfoab
open Go.RowKit

theorem parts_math (A B : List Nat) (s : Nat) (h : A.length % 2 = 0) : gr (gr (s + wsp 0 A) + wsp 0 B) = gr (s + wsp 0 (A ++ B)) := by
  rw [gr_add, wsp_append, wsp_eq B (0 + A.length) 0 (by omega), Nat.add_assoc]
theorem mem_app {A B : List Nat} (hA : ∀ c ∈ A, c < 256) (hB : ∀ c ∈ B, c < 256) : ∀ c ∈ A ++ B, c < 256 := by
  intro c hc
  rcases List.mem_append.1 hc with h | h
  · exact hA c h
  · exact hB c h

set_option maxRecDepth 100000 in
set_option maxHeartbeats 2000000 in
theorem parts_no (va vb : Value) (A B : List Nat) (s : Nat) (w : World) (ha : Rd w va (nus .u8 A)) (hb : Rd w vb (nus .u8 B)) (hno : 500 < A.length ∨ 500 < B.length ∨ A.length % 2 ≠ 0) :
    Calls Try.prog 3 #[va, vb, .int .u32 (s : Int)] w fun e w' => e = .returned (.bool true) ∧ Below w.heap.size w w' := by
  obtain ⟨a0, c0, rfl, h0, k0, -⟩ := ha
  obtain ⟨a1, c1, rfl, h1, k1, -⟩ := hb
  rw [nus_length] at h0 h1
  rw [nus_length, nus_length]
  unfold maxLen at k0 k1
  generalize A.length = l0 at *
  generalize B.length = l1 at *
  go_enter Try.func3, Try.ntmps3
  by_cases g0 : 500 < l0
  · go_wp2_with fail
    refine (awake_any _).mono ?_
    rintro e w2 ⟨rfl, hb⟩
    go_wp2
    go_ret
    exact ⟨rfl, hb⟩
  · by_cases g1 : 500 < l1
    · go_wp2_with fail
      refine (awake_any _).mono ?_
      rintro e w2 ⟨rfl, hb⟩
      go_wp2
      go_ret
      exact ⟨rfl, hb⟩
    · have g2 : (((l0 : Int) % 2) != 0) = true := by rw [bne_iff_ne]; omega
      clear hno
      go_wp2_with fail
      refine (awake_any _).mono ?_
      rintro e w2 ⟨rfl, hb⟩
      go_wp2
      go_ret
      exact ⟨rfl, hb⟩

set_option maxRecDepth 100000 in
set_option maxHeartbeats 2000000 in
theorem parts_yes (a0 a1 : Option Addr) (l0 l1 c0 c1 : Nat) (A B : List Nat) (s : Nat) (w : World) (ha : Rd w (.slice a0 l0 c0) (nus .u8 A)) (hb : Rd w (.slice a1 l1 c1) (nus .u8 B)) (hna : a0 = none → c0 = 0) (hnb : a1 = none → c1 = 0)
    (hA : A.length = l0) (hB : B.length = l1) (h0 : l0 ≤ 500) (h1 : l1 ≤ 500) (h2 : l0 % 2 = 0)
    (bA : ∀ c ∈ A, c < 256) (bB : ∀ c ∈ B, c < 256) (hs : s < 4294967296) :
    Calls Try.prog 3 #[.slice a0 l0 c0, .slice a1 l1 c1, .int .u32 (s : Int)] w fun e w' => e = .returned (.bool true) ∧ Below w.heap.size w w' := by
  have RA := Lib.hid ha
  have RB := Lib.hid hb
  have HA := Lib.hid hA
  have HB := Lib.hid hB
  have NA := Lib.hid hna
  have NB := Lib.hid hnb
  have BA := Lib.hid bA
  have BB := Lib.hid bB
  have hm := Lib.hid (parts_math A B s (by omega))
  have hm2 : (((l0 : Int) % 2) != 0) = false := by rw [bne_eq_false_iff_eq]; omega
  clear ha hb hA hB hna hnb bA bB h2
  go_enter Try.func3, Try.ntmps3
  have b1 := (Below.refl w.heap.size w).alloc (Nat.le_refl _) (.cells #[] 5)
  have o1 := own_none w 5
  have RA1 := Lib.hid (RA.out.below b1)
  have RB1 := Lib.hid (RB.out.below b1)
  have O1 := Lib.hid o1
  have B1 := Lib.hid b1
  clear o1 b1
  go_wp2_with (at_builtin; refine wpList_app rfl (.tmp 22) (.tmp 23) rfl w.heap.size _ 0 [] rfl O1.out a0 l0 c0 A rfl RA1.out NA.out ?c2 ?c3 ?c4)
  case c2 => omega
  case c3 => simp
  intro v2 w2 o2 g2
  have b2 := B1.out.grown g2 B1.out.size (fun k e => by cases e; exact Nat.le_refl _)
  have RA2 := Lib.hid (RA.out.below b2)
  have RB2 := Lib.hid (RB.out.below b2)
  have B2 := Lib.hid b2
  have O2 := Lib.hid o2
  clear o2 g2 b2 O1 B1 RA1 RB1
  go_wp2_with (at_builtin; refine wpList_app rfl (.tmp 24) (.tmp 25) rfl w.heap.size _ l0 A rfl O2.out a1 l1 c1 B rfl RB2.out NB.out ?d2 ?d3 ?d4)
  case d2 => omega
  case d3 => exact B2.out.size
  intro v3 w3 o3 g3
  have b3 := B2.out.grown g3 B2.out.size (fun k e => (O2.out.lt k e).1)
  have RA3 := Lib.hid (RA.out.below b3)
  have RB3 := Lib.hid (RB.out.below b3)
  have R3 := Lib.hid (Rd.own o3)
  have B3 := Lib.hid b3
  have hv3 := Rd.own o3
  obtain ⟨a3, c3, rfl, -, -, -⟩ := hv3
  clear o3 g3 b3 O2 B2 RA2 RB2
  go_wp2_with fail
  refine (sum_any _ (A ++ B) s _ R3.out (by rw [List.length_append, HA.out, HB.out]; omega) (mem_app BA.out BB.out) hs).mono ?_
  rintro e w4 ⟨rfl, hb4⟩
  have RA4 := Lib.hid (RA3.out.below hb4)
  have RB4 := Lib.hid (RB3.out.below hb4)
  have B4 := Lib.hid (B3.out.trans (hb4.mono B3.out.size))
  rw [← hm.out]
  have hg1 := gr_le (s + wsp 0 A)
  have hg2 := gr_le (gr (s + wsp 0 A) + wsp 0 B)
  obtain ⟨x, hx⟩ : ∃ x, x = gr (s + wsp 0 A) := ⟨_, rfl⟩
  rw [← hx] at hg1 hg2 ⊢
  obtain ⟨y, hy⟩ : ∃ y, y = gr (x + wsp 0 B) := ⟨_, rfl⟩
  rw [← hy] at hg2 ⊢
  have HX := Lib.hid hx
  have HY := Lib.hid hy
  clear hb4 R3 RA3 RB3 B3 hx hy hm
  go_wp2_with fail
  refine (sum_any _ A s _ RA4.out (by rw [HA.out]; omega) BA.out hs).mono ?_
  rintro e w5 ⟨rfl, hb5⟩
  have RB5 := Lib.hid (RB4.out.below hb5)
  have B5 := Lib.hid (B4.out.trans (hb5.mono B4.out.size))
  rw [← HX.out]
  clear hb5 RB4 B4 RA4
  go_wp2_with fail
  refine (sum_any _ B x _ RB5.out (by rw [HB.out]; omega) BB.out (by omega)).mono ?_
  rintro e w6 ⟨rfl, hb6⟩
  have B6 := Lib.hid (B5.out.trans (hb6.mono B5.out.size))
  rw [← HY.out]
  clear hb6 RB5 B5
  go_wp2_with fail
  refine (awake_any _).mono ?_
  rintro e w7 ⟨rfl, hb7⟩
  go_wp2
  go_ret
  exact ⟨rfl, B6.out.trans (hb7.mono B6.out.size)⟩

theorem parts_walk (a0 a1 : Option Addr) (l0 l1 c0 c1 : Nat) (A B : List Nat) (s : Nat) (w : World) (ha : Rd w (.slice a0 l0 c0) (nus .u8 A)) (hb : Rd w (.slice a1 l1 c1) (nus .u8 B)) (hna : a0 = none → c0 = 0) (hnb : a1 = none → c1 = 0)
    (bA : ∀ c ∈ A, c < 256) (bB : ∀ c ∈ B, c < 256) (hs : s < 4294967296) :
    Calls Try.prog 3 #[.slice a0 l0 c0, .slice a1 l1 c1, .int .u32 (s : Int)] w fun e w' => e = .returned (.bool true) ∧ Below w.heap.size w w' := by
  by_cases h : 500 < A.length ∨ 500 < B.length ∨ A.length % 2 ≠ 0
  · exact parts_no _ _ A B s w ha hb h
  · have hA : A.length = l0 := by
      obtain ⟨_, _, e, _⟩ := ha
      simp only [Value.slice.injEq, nus_length] at e
      exact e.2.1.symm
    have hB : B.length = l1 := by
      obtain ⟨_, _, e, _⟩ := hb
      simp only [Value.slice.injEq, nus_length] at e
      exact e.2.1.symm
    exact parts_yes a0 a1 l0 l1 c0 c1 A B s w ha hb hna hnb hA hB (by omega) (by omega) (by omega) bA bB hs
end Go.Proofs.Ytjcmidgeddhfoab
