/- The walk of EtherShort. -/
import Derived.Test.YthbkboheeelbiaaET
import Derived.Test.YthbkboheeelbiaaRnd
namespace Go.Proofs.Ythbkboheeelbiaa
open Go.RowKit

theorem getD_take (zs : List Nat) (k i : Nat) (h : i < k) : (zs.take k).getD i 0 = zs.getD i 0 := by
  simp [List.getD_eq_getElem?_getD, h]
theorem u2_take (zs : List Nat) (k i : Nat) (h : i + 2 ≤ k) : u2 (zs.take k) i = u2 zs i := by
  unfold u2
  rw [getD_take _ _ _ (by omega), getD_take _ _ _ (by omega)]
theorem getD_app (M L : List Nat) (n i : Nat) (h : M.length = n) : (M ++ L).getD (n + i) 0 = L.getD i 0 := by
  rw [List.getD_eq_getElem?_getD, List.getD_eq_getElem?_getD, List.getElem?_append_right (by omega), h, Nat.add_sub_cancel_left]
theorem u2_app (M L : List Nat) (n i : Nat) (h : M.length = n) : u2 (M ++ L) (n + i) = u2 L i := by
  unfold u2
  rw [getD_app _ _ _ _ h, Nat.add_assoc, getD_app _ _ _ _ h]
theorem short_bare_net (M : List Nat) (hM : M.length = 12) (k : Nat) (hk : k ≤ 16) :
    (k < 14 → net ((M ++ [8, 0, 69, 0]).take k) = (0, 0, 1)) ∧ (14 ≤ k → net ((M ++ [8, 0, 69, 0]).take k) = (14, 2048, 0)) := by
  have hl : ((M ++ [8, 0, 69, 0]).take k).length = k := by simp [hM]; omega
  refine ⟨fun h => net_short _ (by omega), fun h => ?_⟩
  have hu : u2 ((M ++ [8, 0, 69, 0]).take k) 12 = 2048 := by rw [u2_take _ _ _ (by omega)]; exact u2_app M _ 12 0 hM
  rw [net_bare _ (by omega) (by rw [hu]; decide), hu]
  decide
theorem short_tag_net (M : List Nat) (hM : M.length = 12) (k : Nat) (hk : k ≤ 20) :
    (k < 18 → net ((M ++ [129, 0, 0, 5, 8, 0, 69, 0]).take k) = (0, 0, 1)) ∧ (18 ≤ k → net ((M ++ [129, 0, 0, 5, 8, 0, 69, 0]).take k) = (18, 2048, 0)) := by
  have hl : ((M ++ [129, 0, 0, 5, 8, 0, 69, 0]).take k).length = k := by simp [hM]; omega
  have hu (h : 14 ≤ k) : u2 ((M ++ [129, 0, 0, 5, 8, 0, 69, 0]).take k) 12 = 33024 := by rw [u2_take _ _ _ (by omega)]; exact u2_app M _ 12 0 hM
  refine ⟨fun h => ?_, fun h => ?_⟩
  · by_cases h14 : k < 14
    · exact net_short _ (by omega)
    · exact net_cut _ (by omega) (hu (by omega)) (by omega)
  · have hv : u2 ((M ++ [129, 0, 0, 5, 8, 0, 69, 0]).take k) 16 = 2048 := by rw [u2_take _ _ _ (by omega)]; exact u2_app M _ 12 4 hM
    rw [net_tag _ (by omega) (hu (by omega)) (by omega), hv]
    decide

set_option maxRecDepth 100000 in
set_option maxHeartbeats 2000000 in
theorem short_bare (a : Option Addr) (cap : Nat) (M : List Nat) (cut : Int) (w : World) (hr : Rd w (.slice a 12 cap) (nus .u8 M)) (hna : a = none → cap = 0) (hM : M.length = 12) (hb : ∀ c ∈ M, c < 256) :
    Calls Try.prog 5 #[.slice a 12 cap, .bool false, .int .i64 cut] w fun e w' => e = .returned (.bool true) ∧ Below w.heap.size w w' := by
  have HR := Lib.hid hr
  have HA := Lib.hid hna
  have HM := Lib.hid hM
  have HB := Lib.hid hb
  clear hr hna hM hb
  go_enter Try.func5, Try.ntmps5
  have b1 := (Below.refl w.heap.size w).alloc (Nat.le_refl _) (.cells #[] 5)
  have O1 := Lib.hid (own_none w 5)
  have R1 := Lib.hid (HR.out.below b1)
  have B1 := Lib.hid b1
  clear b1
  go_wp2_with (at_builtin; refine wpList_app rfl (.tmp 16) (.tmp 17) rfl w.heap.size _ 0 [] rfl O1.out a 12 cap M rfl R1.out HA.out ?c2 ?c3 ?c4)
  case c2 => omega
  case c3 => exact B1.out.size
  intro v2 w2 o2 g2
  have O2 := Lib.hid (show w2.ownsRow w.heap.size 5 1 v2 12 (nus .u8 M) from o2)
  have B2 := Lib.hid (B1.out.grown g2 B1.out.size (fun k e => (O1.out.lt k e).1))
  clear o2 g2 O1 B1 R1 HR HA
  have b4 := (Below.refl w2.heap.size w2).alloc (Nat.le_refl _) (.cells (nus .u8 [8, 0, 69, 0]).toArray 5)
  have r4 := rd_lit w2 .u8 5 [8, 0, 69, 0] 4 (0, 0) rfl (by simp [maxLen])
  have O4a := Lib.hid (row_under O2.out b4)
  have R4a := Lib.hid r4
  have B4a := Lib.hid (B2.out.trans (b4.mono B2.out.size))
  clear b4 r4 O2 B2
  go_wp2_with (at_builtin; refine wpList_app rfl (.tmp 23) (.tmp 24) rfl w.heap.size _ 12 (M) rfl O4a.out (some _) 4 4 [8, 0, 69, 0] rfl R4a.out ?c41 ?c42 ?c43 ?c44)
  case c41 => intro e; cases e
  case c42 => omega
  case c43 => exact B4a.out.size
  intro v4 w4 o4 g4
  have O4 := Lib.hid (show w4.ownsRow w.heap.size 5 1 v4 16 (nus .u8 (M ++ [8, 0, 69, 0])) from o4)
  have B4 := Lib.hid (B4a.out.grown g4 B4a.out.size (fun k e => (O4a.out.lt k e).1))
  clear o4 g4 O4a R4a B4a
  have h4 := O4.out
  obtain ⟨-, ⟨rfl, h0⟩ | ⟨g, c4, cur, rfl, -, -, hc4, hm4, -⟩⟩ := h4
  · cases h0
  have R4 := Lib.hid (Rd.own O4.out)
  obtain ⟨k, hk, hk2⟩ : ∃ k : Nat, cut % 17 = k ∧ k ≤ 16 := ⟨(cut % 17).toNat, by omega, by omega⟩
  have HL := Lib.hid (show (M ++ [8, 0, 69, 0]).length = 16 by simp [HM.out])
  have HZ : Hid (∀ c ∈ M ++ [8, 0, 69, 0], c < 256) := by
    show ∀ c ∈ _, c < 256
    intro c hc
    simp only [List.mem_append, List.mem_cons, List.not_mem_nil, or_false] at hc
    rcases hc with hc | hc
    · exact HB.out c hc
    · omega
  have HN := Lib.hid (short_bare_net M HM.out k hk2)
  generalize hZ : M ++ [8, 0, 69, 0] = Z at O4 R4 HL HZ HN
  clear HM HB O4 hZ
  have F4 := Lib.hid (R4.out.front k (by rw [HL.out]; exact hk2))
  have HZk : Hid (∀ c ∈ Z.take k, c < 256) := show ∀ c ∈ _, _ from fun c hc => HZ.out c (List.mem_of_mem_take hc)
  have NN := Lib.hid (net_any _ _ _ F4.out HZk.out)
  unfold maxLen at hm4
  go_wp2_with fail
  refine (round_any cut _ _ (by omega) (by omega)).mono ?_; rintro e w' ⟨rfl, rfl⟩
  rw [hk]
  by_cases hlt : k < 14
  · have HE := Lib.hid (HN.out.1 hlt)
    rw [HE.out] at NN
    clear HN R4
    go_wp2_with fail
    refine NN.out.mono ?_; rintro e w' ⟨rfl, rfl⟩
    go_wp2_with fail
    refine (with_noB _ _ 34525 _ F4.out HZk.out (by rw [HE.out]; decide)).mono ?_
    rintro e w5 ⟨rfl, hb⟩
    have B5 := Lib.hid (B4.out.trans (hb.mono B4.out.size))
    clear hb B4 F4
    go_wp2_with fail
    refine (awake_any _).mono ?_
    rintro e w6 ⟨rfl, hb⟩
    have B6 := Lib.hid (B5.out.trans (hb.mono B5.out.size))
    clear hb B5
    go_wp2
    go_ret
    exact ⟨rfl, B6.out⟩
  · have HE := Lib.hid (HN.out.2 (by omega))
    rw [HE.out] at NN
    clear HN R4
    go_wp2_with fail
    refine NN.out.mono ?_; rintro e w' ⟨rfl, rfl⟩
    go_wp2_with fail
    refine (awake_any _).mono ?_
    rintro e w6 ⟨rfl, hb⟩
    have B6 := Lib.hid (B4.out.trans (hb.mono B4.out.size))
    clear hb B4
    go_wp2
    go_ret
    exact ⟨rfl, B6.out⟩

set_option maxRecDepth 100000 in
set_option maxHeartbeats 2000000 in
theorem short_tag (a : Option Addr) (cap : Nat) (M : List Nat) (cut : Int) (w : World) (hr : Rd w (.slice a 12 cap) (nus .u8 M)) (hna : a = none → cap = 0) (hM : M.length = 12) (hb : ∀ c ∈ M, c < 256) :
    Calls Try.prog 5 #[.slice a 12 cap, .bool true, .int .i64 cut] w fun e w' => e = .returned (.bool true) ∧ Below w.heap.size w w' := by
  have HR := Lib.hid hr
  have HA := Lib.hid hna
  have HM := Lib.hid hM
  have HB := Lib.hid hb
  clear hr hna hM hb
  go_enter Try.func5, Try.ntmps5
  have b1 := (Below.refl w.heap.size w).alloc (Nat.le_refl _) (.cells #[] 5)
  have O1 := Lib.hid (own_none w 5)
  have R1 := Lib.hid (HR.out.below b1)
  have B1 := Lib.hid b1
  clear b1
  go_wp2_with (at_builtin; refine wpList_app rfl (.tmp 16) (.tmp 17) rfl w.heap.size _ 0 [] rfl O1.out a 12 cap M rfl R1.out HA.out ?c2 ?c3 ?c4)
  case c2 => omega
  case c3 => exact B1.out.size
  intro v2 w2 o2 g2
  have O2 := Lib.hid (show w2.ownsRow w.heap.size 5 1 v2 12 (nus .u8 M) from o2)
  have B2 := Lib.hid (B1.out.grown g2 B1.out.size (fun k e => (O1.out.lt k e).1))
  clear o2 g2 O1 B1 R1 HR HA
  have b3 := (Below.refl w2.heap.size w2).alloc (Nat.le_refl _) (.cells (nus .u8 [129, 0, 0, 5]).toArray 5)
  have r3 := rd_lit w2 .u8 5 [129, 0, 0, 5] 4 (0, 0) rfl (by simp [maxLen])
  have O3a := Lib.hid (row_under O2.out b3)
  have R3a := Lib.hid r3
  have B3a := Lib.hid (B2.out.trans (b3.mono B2.out.size))
  clear b3 r3 O2 B2
  go_wp2_with (at_builtin; refine wpList_app rfl (.tmp 20) (.tmp 21) rfl w.heap.size _ 12 (M) rfl O3a.out (some _) 4 4 [129, 0, 0, 5] rfl R3a.out ?c31 ?c32 ?c33 ?c34)
  case c31 => intro e; cases e
  case c32 => omega
  case c33 => exact B3a.out.size
  intro v3 w3 o3 g3
  have O3 := Lib.hid (show w3.ownsRow w.heap.size 5 1 v3 16 (nus .u8 (M ++ [129, 0, 0, 5])) from o3)
  have B3 := Lib.hid (B3a.out.grown g3 B3a.out.size (fun k e => (O3a.out.lt k e).1))
  clear o3 g3 O3a R3a B3a
  have b4 := (Below.refl w3.heap.size w3).alloc (Nat.le_refl _) (.cells (nus .u8 [8, 0, 69, 0]).toArray 5)
  have r4 := rd_lit w3 .u8 5 [8, 0, 69, 0] 4 (0, 0) rfl (by simp [maxLen])
  have O4a := Lib.hid (row_under O3.out b4)
  have R4a := Lib.hid r4
  have B4a := Lib.hid (B3.out.trans (b4.mono B3.out.size))
  clear b4 r4 O3 B3
  go_wp2_with (at_builtin; refine wpList_app rfl (.tmp 23) (.tmp 24) rfl w.heap.size _ 16 (M ++ [129, 0, 0, 5]) rfl O4a.out (some _) 4 4 [8, 0, 69, 0] rfl R4a.out ?c41 ?c42 ?c43 ?c44)
  case c41 => intro e; cases e
  case c42 => omega
  case c43 => exact B4a.out.size
  intro v4 w4 o4 g4
  have O4 := Lib.hid (show w4.ownsRow w.heap.size 5 1 v4 20 (nus .u8 (M ++ [129, 0, 0, 5, 8, 0, 69, 0])) from o4)
  have B4 := Lib.hid (B4a.out.grown g4 B4a.out.size (fun k e => (O4a.out.lt k e).1))
  clear o4 g4 O4a R4a B4a
  have h4 := O4.out
  obtain ⟨-, ⟨rfl, h0⟩ | ⟨g, c4, cur, rfl, -, -, hc4, hm4, -⟩⟩ := h4
  · cases h0
  have R4 := Lib.hid (Rd.own O4.out)
  obtain ⟨k, hk, hk2⟩ : ∃ k : Nat, cut % 21 = k ∧ k ≤ 20 := ⟨(cut % 21).toNat, by omega, by omega⟩
  have HL := Lib.hid (show (M ++ [129, 0, 0, 5, 8, 0, 69, 0]).length = 20 by simp [HM.out])
  have HZ : Hid (∀ c ∈ M ++ [129, 0, 0, 5, 8, 0, 69, 0], c < 256) := by
    show ∀ c ∈ _, c < 256
    intro c hc
    simp only [List.mem_append, List.mem_cons, List.not_mem_nil, or_false] at hc
    rcases hc with hc | hc
    · exact HB.out c hc
    · omega
  have HN := Lib.hid (short_tag_net M HM.out k hk2)
  generalize hZ : M ++ [129, 0, 0, 5, 8, 0, 69, 0] = Z at O4 R4 HL HZ HN
  clear HM HB O4 hZ
  have F4 := Lib.hid (R4.out.front k (by rw [HL.out]; exact hk2))
  have HZk : Hid (∀ c ∈ Z.take k, c < 256) := show ∀ c ∈ _, _ from fun c hc => HZ.out c (List.mem_of_mem_take hc)
  have NN := Lib.hid (net_any _ _ _ F4.out HZk.out)
  unfold maxLen at hm4
  go_wp2_with fail
  refine (round_any cut _ _ (by omega) (by omega)).mono ?_; rintro e w' ⟨rfl, rfl⟩
  rw [hk]
  by_cases hlt : k < 18
  · have HE := Lib.hid (HN.out.1 hlt)
    rw [HE.out] at NN
    clear HN R4
    go_wp2_with fail
    refine NN.out.mono ?_; rintro e w' ⟨rfl, rfl⟩
    go_wp2_with fail
    refine (with_noB _ _ 34525 _ F4.out HZk.out (by rw [HE.out]; decide)).mono ?_
    rintro e w5 ⟨rfl, hb⟩
    have B5 := Lib.hid (B4.out.trans (hb.mono B4.out.size))
    clear hb B4 F4
    go_wp2_with fail
    refine (awake_any _).mono ?_
    rintro e w6 ⟨rfl, hb⟩
    have B6 := Lib.hid (B5.out.trans (hb.mono B5.out.size))
    clear hb B5
    go_wp2
    go_ret
    exact ⟨rfl, B6.out⟩
  · have HE := Lib.hid (HN.out.2 (by omega))
    rw [HE.out] at NN
    clear HN R4
    go_wp2_with fail
    refine NN.out.mono ?_; rintro e w' ⟨rfl, rfl⟩
    go_wp2_with fail
    refine (awake_any _).mono ?_
    rintro e w6 ⟨rfl, hb⟩
    have B6 := Lib.hid (B4.out.trans (hb.mono B4.out.size))
    clear hb B4
    go_wp2
    go_ret
    exact ⟨rfl, B6.out⟩


set_option maxHeartbeats 800000 in
theorem short_walk (v : Value) (M : List Nat) (tag : Bool) (cut : Int) (w : World) (hr : Rd w v (nus .u8 M)) (hna : ∀ a l c, v = .slice a l c → a = none → c = 0) (hb : ∀ c ∈ M, c < 256) :
    Calls Try.prog 5 #[v, .bool tag, .int .i64 cut] w fun e w' => e = .returned (.bool true) ∧ Below w.heap.size w w' := by
  obtain ⟨a, cap, e, hlc, hl, -⟩ := id hr
  rw [nus_length] at e hlc
  subst e
  by_cases h : M.length = 12
  · rw [h] at hr ⊢
    cases tag
    · exact short_bare a cap M cut w hr (hna _ _ _ rfl) h hb
    · exact short_tag a cap M cut w hr (hna _ _ _ rfl) h hb
  · obtain ⟨len, hlen⟩ : ∃ n, n = M.length := ⟨_, rfl⟩
    rw [← hlen] at hlc h ⊢
    unfold maxLen at hl
    clear hlen hr hna hb
    have g0 : ((len : Int) != 12) = true := by simp; omega
    go_enter Try.func5, Try.ntmps5
    go_wp2_with fail
    refine (awake_any _).mono ?_
    rintro e w2 ⟨rfl, hb⟩
    go_wp2
    go_ret
    exact ⟨rfl, hb⟩
end Go.Proofs.Ythbkboheeelbiaa
