/- The walk of SumTells. -/
import Derived.Test.YtjcmidgeddhfoaaCV
namespace Go.Proofs.Ytjcmidgeddhfoaa
open Go.RowKit

set_option maxRecDepth 100000 in
set_option maxHeartbeats 2000000 in
theorem tells_no (vb vf vt : Value) (B F T : List Nat) (s o : Nat) (w : World) (hb : Rd w vb (nus .u8 B)) (hf : Rd w vf (nus .u8 F)) (ht : Rd w vt (nus .u8 T)) (hno : 2000 < B.length ∨ 100 < F.length ∨ 100 < T.length) :
    Calls Try.prog 3 #[vb, .int .u32 (s : Int), .int .u16 (o : Int), vf, vt] w fun e w' => e = .returned (.bool true) ∧ Below w.heap.size w w' := by
  obtain ⟨a0, c0, rfl, h0, k0, -⟩ := hb
  obtain ⟨a1, c1, rfl, h1, k1, -⟩ := hf
  obtain ⟨a2, c2, rfl, h2, k2, -⟩ := ht
  rw [nus_length] at h0 h1 h2
  rw [nus_length, nus_length, nus_length]
  unfold maxLen at k0 k1 k2
  generalize B.length = l0 at *
  generalize F.length = l1 at *
  generalize T.length = l2 at *
  go_enter Try.func3, Try.ntmps3
  by_cases g0 : 2000 < l0
  · go_wp2_with fail
    refine (awake_any _).mono ?_
    rintro e w2 ⟨rfl, hb⟩
    go_wp2
    go_ret
    exact ⟨rfl, hb⟩
  · by_cases g1 : 100 < l1
    · go_wp2_with fail
      refine (awake_any _).mono ?_
      rintro e w2 ⟨rfl, hb⟩
      go_wp2
      go_ret
      exact ⟨rfl, hb⟩
    · have g2 : 100 < l2 := by omega
      clear hno
      go_wp2_with fail
      refine (awake_any _).mono ?_
      rintro e w2 ⟨rfl, hb⟩
      go_wp2
      go_ret
      exact ⟨rfl, hb⟩

set_option maxRecDepth 100000 in
set_option maxHeartbeats 2000000 in
theorem tells_yes (vb vf vt : Value) (B F T : List Nat) (s o : Nat) (w : World) (hb : Rd w vb (nus .u8 B)) (hf : Rd w vf (nus .u8 F)) (ht : Rd w vt (nus .u8 T)) (hB : B.length ≤ 2000) (hF : F.length ≤ 100) (hT : T.length ≤ 100)
    (bB : ∀ c ∈ B, c < 256) (bF : ∀ c ∈ F, c < 256) (bT : ∀ c ∈ T, c < 256) (hs : s < 4294967296) (ho : o < 65536) :
    Calls Try.prog 3 #[vb, .int .u32 (s : Int), .int .u16 (o : Int), vf, vt] w fun e w' => e = .returned (.bool true) ∧ Below w.heap.size w w' := by
  have RB := Lib.hid hb
  have RF := Lib.hid hf
  have RT := Lib.hid ht
  obtain ⟨a0, c0, rfl, h0, k0, -⟩ := hb
  obtain ⟨a1, c1, rfl, h1, k1, -⟩ := hf
  obtain ⟨a2, c2, rfl, h2, k2, -⟩ := ht
  rw [nus_length] at h0 h1 h2 RB RF RT
  rw [nus_length, nus_length, nus_length]
  unfold maxLen at k0 k1 k2
  have SB := Lib.hid (sum_any _ B s w RB.out (by omega) bB hs)
  have hF' := Lib.hid (show F.length ≤ 140737488351232 by omega)
  have hB' := Lib.hid (show B.length ≤ 140737488351232 by omega)
  have HB := Lib.hid hB
  have HF := Lib.hid (show F.length ≤ 1000 by omega)
  have HT := Lib.hid (show T.length ≤ 1000 by omega)
  have BB := Lib.hid bB
  have BF := Lib.hid bF
  have BT := Lib.hid bT
  clear bB bF bT
  obtain ⟨l0, e0⟩ : ∃ n, n = B.length := ⟨_, rfl⟩
  obtain ⟨l1, e1⟩ : ∃ n, n = F.length := ⟨_, rfl⟩
  obtain ⟨l2, e2⟩ : ∃ n, n = T.length := ⟨_, rfl⟩
  rw [← e0] at h0 hB RB SB ⊢
  rw [← e1] at h1 hF RF ⊢
  rw [← e2] at h2 hT RT ⊢
  clear e0 e1 e2
  have hlo : IntKind.u16.wrap (s : Int) = ((s % 65536 : Nat) : Int) := by rw [IntKind.wrap_u16]; omega
  have hl1 : s / 65536 < 65536 := by omega
  have hl2 : s % 65536 < 65536 := by omega
  obtain ⟨x, hx⟩ : ∃ x, x = s / 65536 := ⟨_, rfl⟩
  obtain ⟨y, hy⟩ : ∃ y, y = s % 65536 := ⟨_, rfl⟩
  rw [← hx] at hl1
  rw [← hy] at hl2 hlo
  have hu : upd o x y < 65536 := Nat.lt_succ_of_le (upd_le o x y)
  obtain ⟨u, hue⟩ : ∃ u, u = upd o x y := ⟨_, rfl⟩
  have HX := Lib.hid hx
  have HU := Lib.hid hue
  rw [← hue] at hu
  clear hx hy hue
  go_enter Try.func3, Try.ntmps3
  go_wp2_with fail
  refine (start16_any s _ hs).mono ?_
  rintro e w' ⟨rfl, rfl⟩
  rw [← HX.out]
  go_wp2_with fail
  try rw [hlo]
  refine (upd_any o x y _ ho hl1 hl2).mono ?_
  rintro e w' ⟨rfl, rfl⟩
  rw [← HU.out]
  go_wp2_with fail
  refine SB.out.mono ?_
  rintro e W1 ⟨rfl, b1⟩
  have RB1 := Lib.hid (RB.out.below b1)
  have RF1 := Lib.hid (RF.out.below b1)
  have RT1 := Lib.hid (RT.out.below b1)
  have B1 := Lib.hid b1
  have hg := gr_le (s + wsp 0 B)
  obtain ⟨g, hge⟩ : ∃ g, g = gr (s + wsp 0 B) := ⟨_, rfl⟩
  have HG := Lib.hid hge
  rw [← hge] at hg ⊢
  clear hge b1 RB RF RT SB
  go_wp2_with fail
  refine (rsum_any _ B s _ RB1.out HB.out BB.out hs).mono ?_
  rintro e w' ⟨rfl, rfl⟩
  rw [← HG.out]
  go_wp2_with fail
  refine (check_any _ B _ RB1.out hB'.out BB.out).mono ?_
  rintro e W2 ⟨rfl, b2⟩
  have RB2 := Lib.hid (RB1.out.below b2)
  have RF2 := Lib.hid (RF1.out.below b2)
  have RT2 := Lib.hid (RT1.out.below b2)
  have B2 := Lib.hid (B1.out.trans (b2.mono B1.out.size))
  have hc := ck_le B
  obtain ⟨c, hce⟩ : ∃ c, c = ck B := ⟨_, rfl⟩
  have HC := Lib.hid hce
  rw [← hce] at hc ⊢
  clear hce b2 RB1 RF1 RT1 B1
  go_wp2_with fail
  refine (rcheck_any _ B _ RB2.out HB.out BB.out).mono ?_
  rintro e w' ⟨rfl, rfl⟩
  rw [← HC.out]
  go_wp2_with fail
  refine (change_any o _ _ F T _ RF2.out RT2.out hF'.out BF.out BT.out ho).mono ?_
  rintro e W3 ⟨rfl, b3⟩
  have RF3 := Lib.hid (RF2.out.below b3)
  have RT3 := Lib.hid (RT2.out.below b3)
  have B3 := Lib.hid (B2.out.trans (b3.mono B2.out.size))
  have hd : chA o F T < 65536 := by
    unfold chA
    split
    · exact Nat.lt_succ_of_le (chg_le o F T (by omega) _)
    · exact ho
  obtain ⟨d, hde⟩ : ∃ d, d = chA o F T := ⟨_, rfl⟩
  have HD := Lib.hid hde
  rw [← hde] at hd ⊢
  clear hde b3 RB2 RF2 RT2 B2
  go_wp2_with fail
  refine (rchange_any o _ _ F T _ RF3.out RT3.out HF.out HT.out BF.out BT.out ho).mono ?_
  rintro e w' ⟨rfl, n, rfl⟩
  rw [← HD.out]
  go_wp2_with fail
  refine (start16_any s _ hs).mono ?_
  rintro e w' ⟨rfl, rfl⟩
  rw [← HX.out]
  go_wp2_with fail
  try rw [hlo]
  refine (rupd_any o x y _ ho hl1 hl2).mono ?_
  rintro e w' ⟨rfl, rfl⟩
  rw [← HU.out]
  have B4 := Lib.hid (below_drewN B3.out n)
  clear B3
  go_wp2_with fail
  refine (awake_any _).mono ?_
  rintro e w5 ⟨rfl, b5⟩
  go_wp2
  go_ret
  exact ⟨rfl, B4.out.trans (b5.mono B4.out.size)⟩

theorem tells_walk (vb vf vt : Value) (B F T : List Nat) (s o : Nat) (w : World) (hb : Rd w vb (nus .u8 B)) (hf : Rd w vf (nus .u8 F)) (ht : Rd w vt (nus .u8 T))
    (bB : ∀ c ∈ B, c < 256) (bF : ∀ c ∈ F, c < 256) (bT : ∀ c ∈ T, c < 256) (hs : s < 4294967296) (ho : o < 65536) :
    Calls Try.prog 3 #[vb, .int .u32 (s : Int), .int .u16 (o : Int), vf, vt] w fun e w' => e = .returned (.bool true) ∧ Below w.heap.size w w' := by
  by_cases h : 2000 < B.length ∨ 100 < F.length ∨ 100 < T.length
  · exact tells_no vb vf vt B F T s o w hb hf ht h
  · exact tells_yes vb vf vt B F T s o w hb hf ht (by omega) (by omega) (by omega) bB bF bT hs ho
end Go.Proofs.Ytjcmidgeddhfoaa
