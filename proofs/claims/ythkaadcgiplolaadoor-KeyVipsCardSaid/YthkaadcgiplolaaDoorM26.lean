/- Texts that the walks of this seat lean on, put together. -/
import Derived.WalkKit
import Derived.WalkSpells
import Derived.WalkLawsBesides
import Derived.Lib.Hide
import Derived.Test.YthkaadcgiplolaaDoorTk
import Derived.Test.YthkaadcgiplolaaDoorM08
import Derived.Test.YthkaadcgiplolaaDoorProg
namespace Go.Proofs.YthkaadcgiplolaaDoor
open Go.RowKit
set_option maxRecDepth 10000 in
set_option maxHeartbeats 400000 in
theorem len64_16 (w : World) :
    Calls Tryd.prog 48 #[.int .u64 65535] w fun e w' => e = .returned (.int .i64 16) ∧ w = w' := by
  go_enter Tryd.func48, Tryd.ntmps48
  go_wp2_with fail
  go_ret
  exact ⟨by kernel_rfl, rfl⟩
set_option maxRecDepth 10000 in
set_option maxHeartbeats 400000 in
theorem size16_any (w : World) :
    Calls Tryd.prog 41 #[] w fun e w' => e = .returned (.int .i64 2) ∧ w = w' := by
  go_enter Tryd.func41, Tryd.ntmps41
  go_wp2_with (go_at_call 48; refine (len64_16 _).mono ?_; rintro e w' ⟨rfl, rfl⟩)
  go_ret
  exact ⟨rfl, rfl⟩
set_option maxHeartbeats 400000 in
theorem fits16_pos (a : Option Addr) (len cap : Nat) (at0 : Int) (w : World) (hl : len ≤ maxLen) (h0 : 0 ≤ at0) :
    Calls Tryd.prog 40 #[.slice a len cap, .int .i64 at0] w fun e w' => e = .returned (.bool (decide (at0 ≤ (len : Int) - 2))) ∧ w = w' := by
  unfold maxLen at hl
  go_enter Tryd.func40, Tryd.ntmps40
  go_wp2_with (go_at_call 41; refine (size16_any _).mono ?_; rintro e w' ⟨rfl, rfl⟩)
  go_ret
  exact ⟨rfl, rfl⟩
set_option maxHeartbeats 400000 in
theorem get16_yes (v : Value) (k : Nat) (zs : List Nat) (w : World) (hr : Rd w v (nus .u8 zs)) (hb : ∀ c ∈ zs, c < 256) (hk : k + 2 ≤ zs.length) :
    Calls Tryd.prog 25 #[v, .int .i64 k] w fun e w' => e = .returned (.tuple #[.int .u16 (be ((zs.drop k).take 2) : Nat), .bool true]) ∧ w = w' := by
  obtain ⟨a, cap, rfl, hlc, hl, hx⟩ := hr
  rw [nus_length] at hlc hx ⊢
  rcases hx with hx | ⟨b, off, rfl, hbs, hc⟩
  · have : zs.length = 0 := by rw [(nus_nil _ _).1 hx]; rfl
    omega
  obtain ⟨len, hlen⟩ : ∃ len, len = zs.length := ⟨_, rfl⟩
  rw [← hlen] at hlc hc hk ⊢
  have HL := Lib.hid hlen
  have HC := Lib.hid hc
  have HB := Lib.hid hb
  clear hlen hc hbs hb
  unfold maxLen at hl
  have hfit : decide ((k : Int) ≤ (len : Int) - 2) = true := by simp; omega
  go_enter Tryd.func25, Tryd.ntmps25
  go_wp2_with (first
    | (go_at_call 40; refine (fits16_pos _ _ _ _ _ (by unfold maxLen; omega) (by omega)).mono ?_; rintro e w' ⟨rfl, rfl⟩; rw [hfit])
    | (go_at_call 41; refine (size16_any _).mono ?_; rintro e w' ⟨rfl, rfl⟩))
  go_loop [6, 20] (fun v i => ∃ j : Nat, j ≤ 2 ∧ i = .int .i64 j ∧ v = .int .u64 (be ((zs.drop k).take j) : Nat)) (fun _ i => 2 - (intOf i).toNat)
  case atStart => exact ⟨0, by omega, rfl, rfl⟩
  case round =>
    obtain ⟨j, hj, rfl, rfl⟩ := hrel
    clear hfit
    by_cases hlt : j < 2
    · have hcj := HC.out (k + j) (by omega)
      rw [nus_get _ _ _ (by rw [← HL.out]; omega), ← Nat.add_assoc] at hcj
      have hb := getD_lt zs HB.out (k + j)
      have hst := be_step zs k j (by rw [← HL.out]; omega)
      have hlt' := be_take_lt zs k j HB.out (by rw [← HL.out]; omega)
      have hpw := pow_mono j 7 (by omega)
      have hor := or_step (be ((zs.drop k).take j)) (zs.getD (k + j) 0) (by omega) hb
      rw [← hst] at hor
      obtain ⟨x, hx⟩ : ∃ x, x = zs.getD (k + j) 0 := ⟨_, rfl⟩
      rw [← hx] at hcj hor hb
      have HO := Lib.hid hor
      clear hx hor hst hlt' hpw
      go_wp2
      go_round
      case rel => exact ⟨j + 1, by omega, by go_num, by rw [HO.out]⟩
      case measure => simp [intOf]; omega
    · have hfin := be_take_lt zs k 2 HB.out (by rw [← HL.out]; omega)
      obtain rfl : j = 2 := by omega
      simp only [Nat.reducePow] at hfin
      go_wp2
      go_ret2
      exact ⟨rfl, rfl⟩
end Go.Proofs.YthkaadcgiplolaaDoor
