/- The contracts of octet.Get at the four sizes. -/
import Derived.Test.YtacjkcmiiajabaaOctA
import Derived.Test.YtacjkcmiiajabaaMem
import Derived.Lib.Hide
namespace Go.Proofs.Ytacjkcmiiajabaa
open Go.RowKit

set_option maxHeartbeats 400000 in
theorem get8_yes (v : Value) (k : Nat) (zs : List Nat) (w : World) (hr : Rd w v (nus .u8 zs)) (hb : ∀ c ∈ zs, c < 256) (hk : k + 1 ≤ zs.length) :
    Calls Try.prog 9 #[v, .int .i64 k] w fun e w' => e = .returned (.tuple #[.int .u8 (be ((zs.drop k).take 1) : Nat), .bool true]) ∧ w = w' := by
  obtain ⟨a, cap, rfl, hlc, hl, hx⟩ := hr
  rw [nus_length] at hlc hx ⊢
  rcases hx with hx | ⟨b, off, rfl, hbs, hc⟩
  · have : zs.length = 0 := by rw [(nus_nil _ _).1 hx]; rfl
    omega
  obtain ⟨len, hlen⟩ : ∃ len, len = zs.length := ⟨_, rfl⟩
  rw [← hlen] at hlc hc hk ⊢
  have HL := Lib.hid hlen
  have HC := Lib.hid hc
  have HB := Lib.hid hb
  clear hlen hc hbs hb
  unfold maxLen at hl
  have hfit : decide ((k : Int) ≤ (len : Int) - 1) = true := by simp; omega
  go_enter Try.func9, Try.ntmps9
  go_wp2_with (first
    | (go_at_call 26; refine (fits8_pos _ _ _ _ _ (by unfold maxLen; omega) (by omega)).mono ?_; rintro e w' ⟨rfl, rfl⟩; rw [hfit])
    | (go_at_call 27; refine (size8_any _).mono ?_; rintro e w' ⟨rfl, rfl⟩))
  go_loop [6, 20] (fun v i => ∃ j : Nat, j ≤ 1 ∧ i = .int .i64 j ∧ v = .int .u64 (be ((zs.drop k).take j) : Nat)) (fun _ i => 1 - (intOf i).toNat)
  case atStart => exact ⟨0, by omega, rfl, rfl⟩
  case round =>
    obtain ⟨j, hj, rfl, rfl⟩ := hrel
    clear hfit
    by_cases hlt : j < 1
    · have hcj := HC.out (k + j) (by omega)
      rw [nus_get _ _ _ (by rw [← HL.out]; omega), ← Nat.add_assoc] at hcj
      have hb := getD_lt zs HB.out (k + j)
      have hst := be_step zs k j (by rw [← HL.out]; omega)
      have hlt' := be_take_lt zs k j HB.out (by rw [← HL.out]; omega)
      have hpw := pow_mono j 7 (by omega)
      have hor := or_step (be ((zs.drop k).take j)) (zs.getD (k + j) 0) (by omega) hb
      rw [← hst] at hor
      obtain ⟨x, hx⟩ : ∃ x, x = zs.getD (k + j) 0 := ⟨_, rfl⟩
      rw [← hx] at hcj hor hb
      have HO := Lib.hid hor
      clear hx hor hst hlt' hpw
      go_wp2
      go_round
      case rel => exact ⟨j + 1, by omega, by go_num, by rw [HO.out]⟩
      case measure => simp [intOf]; omega
    · have hfin := be_take_lt zs k 1 HB.out (by rw [← HL.out]; omega)
      obtain rfl : j = 1 := by omega
      simp only [Nat.reducePow] at hfin
      go_wp2
      go_ret2
      exact ⟨rfl, rfl⟩

set_option maxHeartbeats 400000 in
theorem get8_no (a : Option Addr) (len cap : Nat) (at0 : Int) (w : World) (hl : len ≤ maxLen) (h : at0 < 0 ∨ (len : Int) < at0 + 1) :
    Calls Try.prog 9 #[.slice a len cap, .int .i64 at0] w fun e w' => e = .returned (.tuple #[.int .u8 0, .bool false]) ∧ w = w' := by
  by_cases h0 : at0 < 0
  · go_enter Try.func9, Try.ntmps9
    go_wp2_with (go_at_call 26; refine (fits8_neg _ _ _ _ _ (by omega)).mono ?_; rintro e w' ⟨rfl, rfl⟩)
    go_ret2
    exact ⟨rfl, rfl⟩
  · have hfit : decide (at0 ≤ (len : Int) - 1) = false := by simp; omega
    go_enter Try.func9, Try.ntmps9
    go_wp2_with (go_at_call 26; refine (fits8_pos _ _ _ _ _ hl (by omega)).mono ?_; rintro e w' ⟨rfl, rfl⟩; rw [hfit])
    go_ret2
    exact ⟨rfl, rfl⟩

set_option maxHeartbeats 400000 in
theorem get16_yes (v : Value) (k : Nat) (zs : List Nat) (w : World) (hr : Rd w v (nus .u8 zs)) (hb : ∀ c ∈ zs, c < 256) (hk : k + 2 ≤ zs.length) :
    Calls Try.prog 10 #[v, .int .i64 k] w fun e w' => e = .returned (.tuple #[.int .u16 (be ((zs.drop k).take 2) : Nat), .bool true]) ∧ w = w' := by
  obtain ⟨a, cap, rfl, hlc, hl, hx⟩ := hr
  rw [nus_length] at hlc hx ⊢
  rcases hx with hx | ⟨b, off, rfl, hbs, hc⟩
  · have : zs.length = 0 := by rw [(nus_nil _ _).1 hx]; rfl
    omega
  obtain ⟨len, hlen⟩ : ∃ len, len = zs.length := ⟨_, rfl⟩
  rw [← hlen] at hlc hc hk ⊢
  have HL := Lib.hid hlen
  have HC := Lib.hid hc
  have HB := Lib.hid hb
  clear hlen hc hbs hb
  unfold maxLen at hl
  have hfit : decide ((k : Int) ≤ (len : Int) - 2) = true := by simp; omega
  go_enter Try.func10, Try.ntmps10
  go_wp2_with (first
    | (go_at_call 28; refine (fits16_pos _ _ _ _ _ (by unfold maxLen; omega) (by omega)).mono ?_; rintro e w' ⟨rfl, rfl⟩; rw [hfit])
    | (go_at_call 29; refine (size16_any _).mono ?_; rintro e w' ⟨rfl, rfl⟩))
  go_loop [6, 20] (fun v i => ∃ j : Nat, j ≤ 2 ∧ i = .int .i64 j ∧ v = .int .u64 (be ((zs.drop k).take j) : Nat)) (fun _ i => 2 - (intOf i).toNat)
  case atStart => exact ⟨0, by omega, rfl, rfl⟩
  case round =>
    obtain ⟨j, hj, rfl, rfl⟩ := hrel
    clear hfit
    by_cases hlt : j < 2
    · have hcj := HC.out (k + j) (by omega)
      rw [nus_get _ _ _ (by rw [← HL.out]; omega), ← Nat.add_assoc] at hcj
      have hb := getD_lt zs HB.out (k + j)
      have hst := be_step zs k j (by rw [← HL.out]; omega)
      have hlt' := be_take_lt zs k j HB.out (by rw [← HL.out]; omega)
      have hpw := pow_mono j 7 (by omega)
      have hor := or_step (be ((zs.drop k).take j)) (zs.getD (k + j) 0) (by omega) hb
      rw [← hst] at hor
      obtain ⟨x, hx⟩ : ∃ x, x = zs.getD (k + j) 0 := ⟨_, rfl⟩
      rw [← hx] at hcj hor hb
      have HO := Lib.hid hor
      clear hx hor hst hlt' hpw
      go_wp2
      go_round
      case rel => exact ⟨j + 1, by omega, by go_num, by rw [HO.out]⟩
      case measure => simp [intOf]; omega
    · have hfin := be_take_lt zs k 2 HB.out (by rw [← HL.out]; omega)
      obtain rfl : j = 2 := by omega
      simp only [Nat.reducePow] at hfin
      go_wp2
      go_ret2
      exact ⟨rfl, rfl⟩

set_option maxHeartbeats 400000 in
theorem get16_no (a : Option Addr) (len cap : Nat) (at0 : Int) (w : World) (hl : len ≤ maxLen) (h : at0 < 0 ∨ (len : Int) < at0 + 2) :
    Calls Try.prog 10 #[.slice a len cap, .int .i64 at0] w fun e w' => e = .returned (.tuple #[.int .u16 0, .bool false]) ∧ w = w' := by
  by_cases h0 : at0 < 0
  · go_enter Try.func10, Try.ntmps10
    go_wp2_with (go_at_call 28; refine (fits16_neg _ _ _ _ _ (by omega)).mono ?_; rintro e w' ⟨rfl, rfl⟩)
    go_ret2
    exact ⟨rfl, rfl⟩
  · have hfit : decide (at0 ≤ (len : Int) - 2) = false := by simp; omega
    go_enter Try.func10, Try.ntmps10
    go_wp2_with (go_at_call 28; refine (fits16_pos _ _ _ _ _ hl (by omega)).mono ?_; rintro e w' ⟨rfl, rfl⟩; rw [hfit])
    go_ret2
    exact ⟨rfl, rfl⟩

set_option maxHeartbeats 400000 in
theorem get32_yes (v : Value) (k : Nat) (zs : List Nat) (w : World) (hr : Rd w v (nus .u8 zs)) (hb : ∀ c ∈ zs, c < 256) (hk : k + 4 ≤ zs.length) :
    Calls Try.prog 11 #[v, .int .i64 k] w fun e w' => e = .returned (.tuple #[.int .u32 (be ((zs.drop k).take 4) : Nat), .bool true]) ∧ w = w' := by
  obtain ⟨a, cap, rfl, hlc, hl, hx⟩ := hr
  rw [nus_length] at hlc hx ⊢
  rcases hx with hx | ⟨b, off, rfl, hbs, hc⟩
  · have : zs.length = 0 := by rw [(nus_nil _ _).1 hx]; rfl
    omega
  obtain ⟨len, hlen⟩ : ∃ len, len = zs.length := ⟨_, rfl⟩
  rw [← hlen] at hlc hc hk ⊢
  have HL := Lib.hid hlen
  have HC := Lib.hid hc
  have HB := Lib.hid hb
  clear hlen hc hbs hb
  unfold maxLen at hl
  have hfit : decide ((k : Int) ≤ (len : Int) - 4) = true := by simp; omega
  go_enter Try.func11, Try.ntmps11
  go_wp2_with (first
    | (go_at_call 30; refine (fits32_pos _ _ _ _ _ (by unfold maxLen; omega) (by omega)).mono ?_; rintro e w' ⟨rfl, rfl⟩; rw [hfit])
    | (go_at_call 31; refine (size32_any _).mono ?_; rintro e w' ⟨rfl, rfl⟩))
  go_loop [6, 20] (fun v i => ∃ j : Nat, j ≤ 4 ∧ i = .int .i64 j ∧ v = .int .u64 (be ((zs.drop k).take j) : Nat)) (fun _ i => 4 - (intOf i).toNat)
  case atStart => exact ⟨0, by omega, rfl, rfl⟩
  case round =>
    obtain ⟨j, hj, rfl, rfl⟩ := hrel
    clear hfit
    by_cases hlt : j < 4
    · have hcj := HC.out (k + j) (by omega)
      rw [nus_get _ _ _ (by rw [← HL.out]; omega), ← Nat.add_assoc] at hcj
      have hb := getD_lt zs HB.out (k + j)
      have hst := be_step zs k j (by rw [← HL.out]; omega)
      have hlt' := be_take_lt zs k j HB.out (by rw [← HL.out]; omega)
      have hpw := pow_mono j 7 (by omega)
      have hor := or_step (be ((zs.drop k).take j)) (zs.getD (k + j) 0) (by omega) hb
      rw [← hst] at hor
      obtain ⟨x, hx⟩ : ∃ x, x = zs.getD (k + j) 0 := ⟨_, rfl⟩
      rw [← hx] at hcj hor hb
      have HO := Lib.hid hor
      clear hx hor hst hlt' hpw
      go_wp2
      go_round
      case rel => exact ⟨j + 1, by omega, by go_num, by rw [HO.out]⟩
      case measure => simp [intOf]; omega
    · have hfin := be_take_lt zs k 4 HB.out (by rw [← HL.out]; omega)
      obtain rfl : j = 4 := by omega
      simp only [Nat.reducePow] at hfin
      go_wp2
      go_ret2
      exact ⟨rfl, rfl⟩

set_option maxHeartbeats 400000 in
theorem get32_no (a : Option Addr) (len cap : Nat) (at0 : Int) (w : World) (hl : len ≤ maxLen) (h : at0 < 0 ∨ (len : Int) < at0 + 4) :
    Calls Try.prog 11 #[.slice a len cap, .int .i64 at0] w fun e w' => e = .returned (.tuple #[.int .u32 0, .bool false]) ∧ w = w' := by
  by_cases h0 : at0 < 0
  · go_enter Try.func11, Try.ntmps11
    go_wp2_with (go_at_call 30; refine (fits32_neg _ _ _ _ _ (by omega)).mono ?_; rintro e w' ⟨rfl, rfl⟩)
    go_ret2
    exact ⟨rfl, rfl⟩
  · have hfit : decide (at0 ≤ (len : Int) - 4) = false := by simp; omega
    go_enter Try.func11, Try.ntmps11
    go_wp2_with (go_at_call 30; refine (fits32_pos _ _ _ _ _ hl (by omega)).mono ?_; rintro e w' ⟨rfl, rfl⟩; rw [hfit])
    go_ret2
    exact ⟨rfl, rfl⟩

set_option maxHeartbeats 400000 in
theorem get64_yes (v : Value) (k : Nat) (zs : List Nat) (w : World) (hr : Rd w v (nus .u8 zs)) (hb : ∀ c ∈ zs, c < 256) (hk : k + 8 ≤ zs.length) :
    Calls Try.prog 12 #[v, .int .i64 k] w fun e w' => e = .returned (.tuple #[.int .u64 (be ((zs.drop k).take 8) : Nat), .bool true]) ∧ w = w' := by
  obtain ⟨a, cap, rfl, hlc, hl, hx⟩ := hr
  rw [nus_length] at hlc hx ⊢
  rcases hx with hx | ⟨b, off, rfl, hbs, hc⟩
  · have : zs.length = 0 := by rw [(nus_nil _ _).1 hx]; rfl
    omega
  obtain ⟨len, hlen⟩ : ∃ len, len = zs.length := ⟨_, rfl⟩
  rw [← hlen] at hlc hc hk ⊢
  have HL := Lib.hid hlen
  have HC := Lib.hid hc
  have HB := Lib.hid hb
  clear hlen hc hbs hb
  unfold maxLen at hl
  have hfit : decide ((k : Int) ≤ (len : Int) - 8) = true := by simp; omega
  go_enter Try.func12, Try.ntmps12
  go_wp2_with (first
    | (go_at_call 32; refine (fits64_pos _ _ _ _ _ (by unfold maxLen; omega) (by omega)).mono ?_; rintro e w' ⟨rfl, rfl⟩; rw [hfit])
    | (go_at_call 33; refine (size64_any _).mono ?_; rintro e w' ⟨rfl, rfl⟩))
  go_loop [6, 20] (fun v i => ∃ j : Nat, j ≤ 8 ∧ i = .int .i64 j ∧ v = .int .u64 (be ((zs.drop k).take j) : Nat)) (fun _ i => 8 - (intOf i).toNat)
  case atStart => exact ⟨0, by omega, rfl, rfl⟩
  case round =>
    obtain ⟨j, hj, rfl, rfl⟩ := hrel
    clear hfit
    by_cases hlt : j < 8
    · have hcj := HC.out (k + j) (by omega)
      rw [nus_get _ _ _ (by rw [← HL.out]; omega), ← Nat.add_assoc] at hcj
      have hb := getD_lt zs HB.out (k + j)
      have hst := be_step zs k j (by rw [← HL.out]; omega)
      have hlt' := be_take_lt zs k j HB.out (by rw [← HL.out]; omega)
      have hpw := pow_mono j 7 (by omega)
      have hor := or_step (be ((zs.drop k).take j)) (zs.getD (k + j) 0) (by omega) hb
      rw [← hst] at hor
      obtain ⟨x, hx⟩ : ∃ x, x = zs.getD (k + j) 0 := ⟨_, rfl⟩
      rw [← hx] at hcj hor hb
      have HO := Lib.hid hor
      clear hx hor hst hlt' hpw
      go_wp2
      go_round
      case rel => exact ⟨j + 1, by omega, by go_num, by rw [HO.out]⟩
      case measure => simp [intOf]; omega
    · have hfin := be_take_lt zs k 8 HB.out (by rw [← HL.out]; omega)
      obtain rfl : j = 8 := by omega
      simp only [Nat.reducePow] at hfin
      go_wp2
      go_ret2
      exact ⟨rfl, rfl⟩

set_option maxHeartbeats 400000 in
theorem get64_no (a : Option Addr) (len cap : Nat) (at0 : Int) (w : World) (hl : len ≤ maxLen) (h : at0 < 0 ∨ (len : Int) < at0 + 8) :
    Calls Try.prog 12 #[.slice a len cap, .int .i64 at0] w fun e w' => e = .returned (.tuple #[.int .u64 0, .bool false]) ∧ w = w' := by
  by_cases h0 : at0 < 0
  · go_enter Try.func12, Try.ntmps12
    go_wp2_with (go_at_call 32; refine (fits64_neg _ _ _ _ _ (by omega)).mono ?_; rintro e w' ⟨rfl, rfl⟩)
    go_ret2
    exact ⟨rfl, rfl⟩
  · have hfit : decide (at0 ≤ (len : Int) - 8) = false := by simp; omega
    go_enter Try.func12, Try.ntmps12
    go_wp2_with (go_at_call 32; refine (fits64_pos _ _ _ _ _ hl (by omega)).mono ?_; rintro e w' ⟨rfl, rfl⟩; rw [hfit])
    go_ret2
    exact ⟨rfl, rfl⟩

end Go.Proofs.Ytacjkcmiiajabaa
