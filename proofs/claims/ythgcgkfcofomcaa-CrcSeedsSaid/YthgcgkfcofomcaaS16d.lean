/- The document's own check, bit by bit; the polynomials. -/
import Derived.Test.YthgcgkfcofomcaaS16c
import Derived.Test.YthgcgkfcofomcaaLt
import Derived.LoopTactic
import Derived.Handy
namespace Go.Proofs.Ythgcgkfcofomcaa
open Go.RowKit Go.Lib

theorem xor_ones (s : Nat) (h : s < 4294967296) : bits .xor .u32 (s : Int) 4294967295 = ((s ^^^ ones : Nat) : Int) := u32_xor_nat s 4294967295 h (by decide)
set_option maxRecDepth 100000 in
set_option maxHeartbeats 400000 in
theorem crc_any (p s : Nat) (hp : p < 4294967296) (hs : s < 4294967296) (v : Value) (bs : List Nat) (hb : ∀ c ∈ bs, c < 256) (w : World) (hv : Rd w v (nus .u8 bs)) :
    Calls Try.prog 13 #[.int .u32 (p : Int), .int .u32 (s : Int), v] w fun e w' => e = .returned (.int .u32 ((crcC p s bs : Nat) : Int)) ∧ w = w' := by
  obtain ⟨a, cap, rfl, hcap, hmax⟩ := rd_shape hv
  have hn := xor_ones s hs
  have hr0 := Nat.xor_lt_two_pow (n := 32) hs (show ones < 2 ^ 32 by decide)
  have hd : regC p (s ^^^ ones) bs ^^^ ones = crcC p s bs := rfl
  have HD := Lib.hid hd
  obtain ⟨R, hR⟩ : ∃ R, R = regC p (s ^^^ ones) bs := ⟨_, rfl⟩
  rw [← hR] at HD
  obtain ⟨r0, hr⟩ : ∃ r, r = s ^^^ ones := ⟨_, rfl⟩
  rw [← hr] at hR hr0 hn
  have HR := Lib.hid hR.symm
  have HB := Lib.hid (fun k => getD_lt bs hb k)
  have hR32 : R < 4294967296 := by rw [hR]; exact regC_lt p hp bs r0 hr0 hb
  have hN := xor_ones R hR32
  have V0 := Lib.hid hv
  clear hv hb hR hr hd
  go_enter Try.func13, Try.ntmps13
  go_wp2
  go_loopw [7, 8, 9] (fun r i j wr => ∃ (k x : Nat), k ≤ bs.length ∧ i = .int .i64 (k : Int) ∧ r = .int .u32 (x : Int) ∧ Hid (x < 4294967296 ∧ regC p x (bs.drop k) = R) ∧ w = wr) (fun _ i _ _ => bs.length - (RowKit.intOf i).toNat)
  case atStart => exact ⟨0, r0, by omega, rfl, rfl, ⟨hr0, HR.out⟩, rfl⟩
  case round =>
    obtain ⟨k, x, hk, rfl, rfl, hx, rfl⟩ := hrel
    clear HR
    have hmx := hmax
    unfold maxLen at hmx
    by_cases hlt : k < bs.length
    · have d8 : decide ((k : Int) < (bs.length : Int)) = true := decide_eq_true (by omega)
      obtain ⟨b, off, rfl, hc⟩ := V0.out.cells (by omega)
      have hc2 := hc k hlt
      have HX := Lib.hid (regC_step p x k R bs hlt hx.out.2)
      have hy := HB.out k
      have hxx := hx.out.1
      generalize bs.getD k 0 = y at hc2 HX hy
      have HL := Lib.hid (byB_lt p x y hp hxx hy)
      obtain ⟨z, hz⟩ : ∃ z, z = x ^^^ y := ⟨_, rfl⟩
      have hz32 : z < 4294967296 := by rw [hz]; exact Nat.xor_lt_two_pow (n := 32) hxx (by omega)
      have hz0 : stpN p (8 - 0) z = byB p x y := by rw [hz]; rfl
      have w1 : IntKind.u32.wrap (y : Int) = (y : Int) := by rw [IntKind.wrap_u32]; omega
      have x1 : bits .xor .u32 (x : Int) (y : Int) = (z : Int) := by rw [xor_u32 _ _ hxx (by omega), hz]
      have HZ := Lib.hid hz0
      obtain ⟨B, hB⟩ : ∃ B, B = byB p x y := ⟨_, rfl⟩
      rw [← hB] at HZ HX HL
      clear hc HB hz0 hz hB
      go_wp2
      go_loopw [7, 9] (fun r j wr => ∃ (l q : Nat), l ≤ 8 ∧ j = .int .i64 (l : Int) ∧ r = .int .u32 (q : Int) ∧ Hid (q < 4294967296 ∧ stpN p (8 - l) q = B) ∧ w = wr) (fun _ j _ => 8 - (RowKit.intOf j).toNat)
      case atStart => exact ⟨0, z, by omega, rfl, rfl, ⟨hz32, HZ.out⟩, rfl⟩
      case round =>
        obtain ⟨l, q, hl, rfl, rfl, hq, rfl⟩ := hrel
        clear hc2 hx x1 w1
        by_cases hll : l < 8
        · have d9 : decide ((l : Int) < 8) = true := decide_eq_true (by omega)
          have A1 := Lib.hid (and1_u32 q hq.out.1)
          have X1 := Lib.hid (xor_u32 (q / 2) p (by have := hq.out.1; omega) hp)
          have hq2 := Lib.hid (stp_lt p q hp hq.out.1)
          have hN2 := Lib.hid (stpN_next p l q _ hll hq.out.2)
          have hd : (q : Int) / 2 = ((q / 2 : Nat) : Int) := by omega
          have HD2 := Lib.hid hd
          clear hd
          have hm : q % 2 = 0 ∨ q % 2 = 1 := by omega
          rcases hm with hm | hm
          · have hS := Lib.hid (stp_not p q hm)
            have a1 : bits .and .u32 (q : Int) 1 = 0 := by rw [A1.out, hm]; rfl
            go_wp2
            go_roundw
            case rel => exact ⟨l + 1, stp p q, Nat.succ_le_of_lt hll, by go_num, by rw [hS.out, HD2.out], ⟨hq2.out, hN2.out⟩, trivial⟩
            case measure => simp [RowKit.intOf]; omega
          · have hS := Lib.hid (stp_odd p q hm)
            have a1 : bits .and .u32 (q : Int) 1 = 1 := by rw [A1.out, hm]; rfl
            go_wp2
            go_roundw
            case rel => exact ⟨l + 1, stp p q, Nat.succ_le_of_lt hll, by go_num, by rw [hS.out, HD2.out, X1.out], ⟨hq2.out, hN2.out⟩, trivial⟩
            case measure => simp [RowKit.intOf]; omega
        · obtain rfl : l = 8 := by omega
          have d16 : decide (((8 : Nat) : Int) < 8) = false := by decide
          have HQ : q = B := hq.out.2
          subst HQ
          go_wp2
          go_roundw
          case rel => exact ⟨k + 1, q, Nat.succ_le_of_lt hlt, by go_num, rfl, ⟨HL.out, HX.out⟩, trivial⟩
          case measure => simp [RowKit.intOf]; omega
    · obtain rfl : k = bs.length := by omega
      have d16 : decide (((bs.length : Nat) : Int) < (bs.length : Int)) = false := decide_eq_false (by omega)
      have hq := hx.out.2
      rw [List.drop_length] at hq
      have HQ : x = R := hq
      subst HQ
      clear hq
      go_wp2
      go_ret
      exact ⟨by rw [HD.out]; rfl, rfl⟩
end Go.Proofs.Ythgcgkfcofomcaa
