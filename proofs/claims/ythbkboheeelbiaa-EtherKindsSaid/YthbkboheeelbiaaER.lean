/- bazaarref1.Net and bazaarref1.With: they tell the same. -/
import Derived.Test.YthbkboheeelbiaaEW
import Derived.Test.YthbkboheeelbiaaRb
import Derived.Test.YthbkboheeelbiaaEP
import Derived.Test.YthbkboheeelbiaaAp
namespace Go.Proofs.Ythbkboheeelbiaa
open Go.RowKit

set_option maxHeartbeats 800000 in
theorem rnet_any (v : Value) (zs : List Nat) (w : World) (hr : Rd w v (nus .u8 zs)) (hb : ∀ c ∈ zs, c < 256) :
    Calls Try.prog 9 #[v] w fun e w' => e = .returned (.tuple #[.int .i64 ((net zs).1 : Nat), .int .i64 ((net zs).2.1 : Nat), .int .i64 ((net zs).2.2 : Nat)]) ∧ Below w.heap.size w w' := by
  have HR := Lib.hid hr
  have HB := Lib.hid hb
  obtain ⟨a, cap, rfl, hlc, hl, -⟩ := hr
  rw [nus_length] at hlc HR ⊢
  have hk1 := u2_lt zs 12 hb
  have hk2 := u2_lt zs 16 hb
  clear hb
  have hlm : zs.length ≤ maxLen := Nat.le_trans hlc hl
  unfold maxLen at hlm
  clear hl hlc
  by_cases h14 : zs.length < 14
  · rw [net_short zs h14]
    go_enter Try.func9, Try.ntmps9
    go_wp2
    go_ret3
    exact ⟨rfl, Below.refl _ _⟩
  · by_cases hv : u2 zs 12 = 33024
    · by_cases h18 : zs.length < 18
      · rw [net_cut zs h14 hv h18]
        go_enter Try.func9, Try.ntmps9
        go_wp2_with fail
        refine (be16_any _ _ _ 12 zs _ HR.out HB.out (by omega)).mono ?_; rintro e w' ⟨rfl, n, rfl⟩
        rw [show zs.getD 12 0 * 256 + zs.getD (12 + 1) 0 = 33024 from hv]
        go_wp2
        go_ret3
        exact ⟨rfl, below_drewN (Below.refl _ _) _⟩
      · rw [net_tag zs h14 hv h18]
        obtain ⟨kd, hK⟩ : ∃ k, k = u2 zs 16 := ⟨_, rfl⟩
        rw [← hK] at hk2 ⊢
        have HK := Lib.hid (show zs.getD 16 0 * 256 + zs.getD (16 + 1) 0 = kd from hK.symm)
        clear hK
        go_enter Try.func9, Try.ntmps9
        go_wp2_with fail
        refine (be16_any _ _ _ 12 zs _ HR.out HB.out (by omega)).mono ?_; rintro e w' ⟨rfl, n, rfl⟩
        rw [show zs.getD 12 0 * 256 + zs.getD (12 + 1) 0 = 33024 from hv]
        go_wp2_with fail
        refine (be16_any _ _ _ 16 zs _ (HR.out.below (below_drewN (Below.refl _ _) _)) HB.out (by omega)).mono ?_; rintro e w' ⟨rfl, n, rfl⟩
        rw [HK.out]
        clear hv hk1
        by_cases h1 : kd = 2048
        · subst h1
          go_wp2
          go_ret3
          exact ⟨rfl, below_drewN (Below.refl _ _) _⟩
        · by_cases h2 : kd = 34525
          · subst h2
            go_wp2
            go_ret3
            exact ⟨rfl, below_drewN (Below.refl _ _) _⟩
          · have en := Lib.hid (netK_no 18 kd h1 h2)
            have g1 : ((kd : Int) != 2048) = true := by simp; omega
            have g2 : ((kd : Int) != 34525) = true := by simp; omega
            clear h1 h2
            go_wp2
            go_ret3
            exact ⟨by rw [en.out]; rfl, below_drewN (Below.refl _ _) _⟩
    · rw [net_bare zs h14 hv]
      obtain ⟨kd, hK⟩ : ∃ k, k = u2 zs 12 := ⟨_, rfl⟩
      rw [← hK] at hk1 hv ⊢
      have HK := Lib.hid (show zs.getD 12 0 * 256 + zs.getD (12 + 1) 0 = kd from hK.symm)
      clear hK
      go_enter Try.func9, Try.ntmps9
      go_wp2_with fail
      refine (be16_any _ _ _ 12 zs _ HR.out HB.out (by omega)).mono ?_; rintro e w' ⟨rfl, n, rfl⟩
      rw [HK.out]
      clear hk2
      have B2 := Lib.hid (below_drewN (Below.refl w.heap.size w) n)
      have g0 : ((kd : Int) == 33024) = false := by simp; omega
      clear hv
      by_cases h1 : kd = 2048
      · subst h1
        go_wp2
        go_ret3
        exact ⟨rfl, B2.out⟩
      · by_cases h2 : kd = 34525
        · subst h2
          go_wp2
          go_ret3
          exact ⟨rfl, B2.out⟩
        · have en := Lib.hid (netK_no 14 kd h1 h2)
          have g1 : ((kd : Int) != 2048) = true := by simp; omega
          have g2 : ((kd : Int) != 34525) = true := by simp; omega
          clear h1 h2
          go_wp2
          go_ret3
          exact ⟨by rw [en.out]; rfl, B2.out⟩

set_option maxHeartbeats 800000 in
theorem rwith_no (v : Value) (zs : List Nat) (k : Nat) (w : World) (hr : Rd w v (nus .u8 zs)) (hb : ∀ c ∈ zs, c < 256) (hn : (net zs).2.2 ≠ 0) :
    Calls Try.prog 11 #[v, .int .i64 (k : Int)] w fun e w' => e = .returned (.slice none 0 0) ∧ Below w.heap.size w w' := by
  have HN := Lib.hid (rnet_any v zs w hr hb)
  have hlt := net_r zs
  obtain ⟨a, cap, rfl, -, -, -⟩ := hr
  rw [nus_length] at HN ⊢
  obtain ⟨r, hre⟩ : ∃ r, r = (net zs).2.2 := ⟨_, rfl⟩
  rw [← hre] at HN hlt hn
  clear hre hb
  go_enter Try.func11, Try.ntmps11
  go_wp2_with fail
  refine HN.out.mono ?_; rintro e w' ⟨rfl, hbl⟩
  have g0 : ((r : Int) != 0) = true := by simp; omega
  have HB := Lib.hid hbl
  clear hn hbl
  go_wp2
  go_ret
  exact ⟨rfl, HB.out⟩

theorem set_two (zs : List Nat) (n k : Nat) (h : n + 2 ≤ zs.length) (hk : k < 65536) : ((zs.take (n + 2)).set n (k / 256)).set (n + 1) (k % 256) = zs.take n ++ bg 2 k := by
  have hl : (zs.take n).length = n := by simp; omega
  have hd : (zs.drop n).length = zs.length - n := by simp
  rw [List.take_add]
  cases h0 : zs.drop n with
  | nil => rw [h0] at hd; simp at hd; omega
  | cons a r =>
    cases r with
    | nil => rw [h0] at hd; simp at hd; omega
    | cons b r =>
      rw [List.set_append_right _ _ (by omega), List.set_append_right _ _ (by omega), hl, Nat.sub_self, Nat.add_sub_cancel_left]
      have e : k / 256 % 256 = k / 256 := by omega
      simp [bg, e]
/-- An empty row that is new. -/
theorem own_new (w0 w : World) (e : TypeId) (h : w0.heap.size ≤ w.heap.size) : (w.alloc (.cells #[] e)).ownsRow w0.heap.size e 1 (.slice (some ⟨w.heap.size, 0, none⟩) 0 0) 0 (nus .u8 []) :=
  own_of_heap (show (w.heap.push (.cells #[] e))[w.heap.size]? = _ by simp [nus]) h rfl (by simp [maxLen])

set_option maxHeartbeats 800000 in
theorem rwith_yes (v : Value) (zs : List Nat) (k n : Nat) (w : World) (hr : Rd w v (nus .u8 zs)) (hb : ∀ c ∈ zs, c < 256) (hk : k < 65536) (h0 : (net zs).2.2 = 0) (h1 : (net zs).1 = n + 2) (h2 : n + 2 ≤ zs.length) (h3 : n ≤ 16) :
    Calls Try.prog 11 #[v, .int .i64 (k : Int)] w fun e w' => ∃ x, e = .returned x ∧ w'.ownsRow w.heap.size 5 1 x (n + 2) (nus .u8 (zs.take n ++ bg 2 k)) ∧ Below w.heap.size w w' := by
  have HN := Lib.hid (rnet_any v zs w hr hb)
  have HR := Lib.hid hr
  obtain ⟨a, cap, rfl, hlc, hl, hx⟩ := hr
  rw [nus_length] at hlc HN HR hx ⊢
  obtain ⟨b, off, rfl, -, -⟩ := hx.resolve_left (by rw [nus_nil]; intro e; subst e; simp at h2)
  have HS := Lib.hid (set_two zs n k h2 hk)
  rw [h0, h1] at HN
  have hfr := Lib.hid (HR.out.front (n + 2) h2)
  generalize zs.length = len at *
  clear hb h0 h1 HR hx
  unfold maxLen at hl
  go_enter Try.func11, Try.ntmps11
  go_wp2_with fail
  refine HN.out.mono ?_; rintro e w1 ⟨rfl, b1⟩
  have F1 := Lib.hid (hfr.out.below b1)
  have B1 := Lib.hid b1
  clear b1 HN hfr
  have o1 := own_new w w1 5 B1.out.size
  have b2 := (Below.refl w1.heap.size w1).alloc (Nat.le_refl _) (.cells #[] 5)
  have b3 := B1.out.alloc B1.out.size (.cells #[] 5)
  have F2 := Lib.hid (F1.out.below b2)
  have O1 := Lib.hid o1
  have B3 := Lib.hid b3
  clear o1 b2 b3 F1 B1
  go_wp2_with (at_builtin; refine wpList_app rfl (.tmp 17) (.tmp 20) rfl w.heap.size _ 0 [] rfl O1.out (some ⟨b, off, none⟩) (n + 2) cap (zs.take (n + 2)) rfl F2.out ?c1 ?c2 ?c3 ?c4)
  case c1 => intro e; cases e
  case c2 => omega
  case c3 => exact B3.out.size
  intro v2 w2 o2 g2
  have b4 := B3.out.grown g2 B3.out.size (fun k e => (O1.out.lt k e).1)
  have hv := o2
  obtain ⟨-, ⟨rfl, h0⟩ | ⟨g, c2, cur, rfl, hg, -⟩⟩ := hv
  · omega
  have O2 := Lib.hid o2
  have B4 := Lib.hid b4
  clear o2 b4 g2 O1 B3 F2
  have hs : IntKind.i64.wrap (((n + 2 : Nat) : Int) - 2) = (n : Int) := by rw [IntKind.wrap_i64]; omega
  go_wp2_with fail
  refine (rput16_any g (n + 2) c2 w.heap.size n k _ w2 O2.out (by unfold maxLen; omega) (Nat.le_refl _) hk).mono ?_
  rintro e w3 ⟨rfl, o3, g3⟩
  rw [HS.out] at o3
  have b5 := B4.out.grown g3 B4.out.size (fun k e => by cases e; exact hg)
  have O3 := Lib.hid o3
  have B5 := Lib.hid b5
  clear o3 b5 g3 O2 B4
  go_wp2
  go_ret
  exact ⟨_, rfl, O3.out, B5.out⟩
end Go.Proofs.Ythbkboheeelbiaa
