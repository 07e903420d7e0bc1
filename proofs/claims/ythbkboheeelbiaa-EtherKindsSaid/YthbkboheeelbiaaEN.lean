/- ether.Net and ether.With: what they tell, in plain numbers. -/
import Derived.Test.YthbkboheeelbiaaG16
import Derived.OwnWalk
namespace Go.Proofs.Ythbkboheeelbiaa
open Go.RowKit

/-- The number of two bytes at a place. -/
def u2 (zs : List Nat) (k : Nat) : Nat := zs.getD k 0 * 256 + zs.getD (k + 1) 0
theorem be_u2 (zs : List Nat) (k : Nat) (h : k + 2 ≤ zs.length) : be ((zs.drop k).take 2) = u2 zs k := by
  have e := be_step zs k 1 (by omega)
  have e0 := be_step zs k 0 (by omega)
  have z : be ((zs.drop k).take 0) = 0 := rfl
  rw [e, e0, z, Nat.add_zero]
  unfold u2
  omega
theorem u2_lt (zs : List Nat) (k : Nat) (hb : ∀ c ∈ zs, c < 256) : u2 zs k < 65536 := by
  have h1 := getD_lt zs hb k
  have h2 := getD_lt zs hb (k + 1)
  unfold u2; omega
/-- Where what follows begins, what it is, or the reason. -/
def netK (at0 kind : Nat) : Nat × Nat × Nat := if kind = 2048 ∨ kind = 34525 then (at0, kind, 0) else (0, 0, 2)
def net (zs : List Nat) : Nat × Nat × Nat :=
  if zs.length < 14 then (0, 0, 1)
  else if u2 zs 12 = 33024 then (if zs.length < 18 then (0, 0, 1) else netK 18 (u2 zs 16))
  else netK 14 (u2 zs 12)

/-- A row too short; one tag, cut off; one tag; none. -/
theorem net_short (zs : List Nat) (h : zs.length < 14) : net zs = (0, 0, 1) := by simp [net, h]
theorem net_cut (zs : List Nat) (h : ¬ zs.length < 14) (hv : u2 zs 12 = 33024) (h18 : zs.length < 18) : net zs = (0, 0, 1) := by simp [net, h, h18, hv]
theorem net_tag (zs : List Nat) (h : ¬ zs.length < 14) (hv : u2 zs 12 = 33024) (h18 : ¬ zs.length < 18) : net zs = netK 18 (u2 zs 16) := by simp [net, h, h18, hv]
theorem net_bare (zs : List Nat) (h : ¬ zs.length < 14) (hv : u2 zs 12 ≠ 33024) : net zs = netK 14 (u2 zs 12) := by simp [net, h, hv]
theorem netK_no (n k : Nat) (h1 : k ≠ 2048) (h2 : k ≠ 34525) : netK n k = (0, 0, 2) := by simp [netK, h1, h2]

set_option maxHeartbeats 800000 in
theorem net_any (v : Value) (zs : List Nat) (w : World) (hr : Rd w v (nus .u8 zs)) (hb : ∀ c ∈ zs, c < 256) :
    Calls Try.prog 8 #[v] w fun e w' => e = .returned (.tuple #[.int .i64 ((net zs).1 : Nat), .int .u16 ((net zs).2.1 : Nat), .int .i64 ((net zs).2.2 : Nat)]) ∧ w = w' := by
  have HR := Lib.hid hr
  have HB := Lib.hid hb
  obtain ⟨a, cap, rfl, hlc, hl, -⟩ := hr
  rw [nus_length] at hlc HR ⊢
  have hk1 := u2_lt zs 12 hb
  have hk2 := u2_lt zs 16 hb
  clear hb
  have hlm : zs.length ≤ maxLen := Nat.le_trans hlc hl
  clear hl hlc
  by_cases h14 : zs.length < 14
  · rw [net_short zs h14]
    go_enter Try.func8, Try.ntmps8
    go_wp2_with fail
    refine (get16_no _ _ _ 12 _ hlm (.inr (by omega))).mono ?_; rintro e w' ⟨rfl, rfl⟩
    go_wp2
    go_ret3
    exact ⟨rfl, rfl⟩
  · have hk := be_u2 zs 12 (by omega)
    by_cases hv : u2 zs 12 = 33024
    · by_cases h18 : zs.length < 18
      · rw [net_cut zs h14 hv h18]
        go_enter Try.func8, Try.ntmps8
        go_wp2_with fail
        refine (get16_yes _ 12 zs _ HR.out HB.out (by omega)).mono ?_; rintro e w' ⟨rfl, rfl⟩
        rw [hk, hv]
        go_wp2_with fail
        refine (get16_no _ _ _ 16 _ hlm (.inr (by omega))).mono ?_; rintro e w' ⟨rfl, rfl⟩
        go_wp2
        go_ret3
        exact ⟨rfl, rfl⟩
      · have hl := be_u2 zs 16 (by omega)
        rw [net_tag zs h14 hv h18]
        obtain ⟨kd, hK⟩ : ∃ kd, kd = u2 zs 16 := ⟨_, rfl⟩
        rw [← hK] at hl hk2 ⊢
        clear hK
        go_enter Try.func8, Try.ntmps8
        go_wp2_with fail
        refine (get16_yes _ 12 zs _ HR.out HB.out (by omega)).mono ?_; rintro e w' ⟨rfl, rfl⟩
        rw [hk, hv]
        go_wp2_with fail
        refine (get16_yes _ 16 zs _ HR.out HB.out (by omega)).mono ?_; rintro e w' ⟨rfl, rfl⟩
        rw [hl]
        clear hk hl hv hk1
        by_cases h1 : kd = 2048
        · subst h1
          go_wp2
          go_ret3
          exact ⟨rfl, rfl⟩
        · by_cases h2 : kd = 34525
          · subst h2
            go_wp2
            go_ret3
            exact ⟨rfl, rfl⟩
          · have en := Lib.hid (netK_no 18 kd h1 h2)
            have g1 : ((kd : Int) != 2048) = true := by simp; omega
            have g2 : ((kd : Int) != 34525) = true := by simp; omega
            clear h1 h2
            go_wp2
            go_ret3
            exact ⟨by rw [en.out]; rfl, rfl⟩
    · rw [net_bare zs h14 hv]
      obtain ⟨kd, hK⟩ : ∃ k, k = u2 zs 12 := ⟨_, rfl⟩
      rw [← hK] at hk hk1 hv ⊢
      clear hK
      go_enter Try.func8, Try.ntmps8
      go_wp2_with fail
      refine (get16_yes _ 12 zs _ HR.out HB.out (by omega)).mono ?_; rintro e w' ⟨rfl, rfl⟩
      rw [hk]
      clear hk hk2
      have g0 : ((kd : Int) == 33024) = false := by simp; omega
      clear hv
      by_cases h1 : kd = 2048
      · subst h1
        go_wp2
        go_ret3
        exact ⟨rfl, rfl⟩
      · by_cases h2 : kd = 34525
        · subst h2
          go_wp2
          go_ret3
          exact ⟨rfl, rfl⟩
        · have en := Lib.hid (netK_no 14 kd h1 h2)
          have g1 : ((kd : Int) != 2048) = true := by simp; omega
          have g2 : ((kd : Int) != 34525) = true := by simp; omega
          clear h1 h2
          go_wp2
          go_ret3
          exact ⟨by rw [en.out]; rfl, rfl⟩
end Go.Proofs.Ythbkboheeelbiaa
