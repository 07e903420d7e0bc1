/- The walk of OctetJoins. -/
import Derived.Test.YteepkefnighjoaaOctL
import Derived.Test.YteepkefnighjoaaRow

import Derived.Test.YteepkefnighjoaaJoin
namespace Go.Proofs.Yteepkefnighjoaa
open Go.RowKit

set_option maxRecDepth 100000 in
set_option maxHeartbeats 2000000 in
theorem joins_walk_long (a : Option Addr) (len cap : Nat) (w : World) (hc : len ≤ maxLen) (h : 50 < len) :
    Calls Try.prog 7 #[.slice a len cap] w fun e w' => e = .returned (.bool true) ∧ Below w.heap.size w w' := by
  unfold maxLen at hc
  go_enter Try.func7, Try.ntmps7
  go_wp2_with fail
  refine (awake_any _).mono ?_
  rintro e w2 ⟨rfl, hb⟩
  go_wp2
  go_ret
  exact ⟨rfl, hb⟩

set_option maxRecDepth 100000 in
set_option maxHeartbeats 4000000 in
theorem joins_walk_short (va : Value) (ls : List Nat) (w : World) (hr : Rd w va (nus .u64 ls)) (hb : ∀ c ∈ ls, c < 18446744073709551616) (h1 : ls.length ≤ 50) :
    Calls Try.prog 7 #[va] w fun e w' => e = .returned (.bool true) ∧ Below w.heap.size w w' := by
  have HR := Lib.hid hr
  obtain ⟨a, cap, rfl, hlc, hc⟩ := rd_shape hr
  obtain ⟨len, hlen⟩ : ∃ len, len = ls.length := ⟨_, rfl⟩
  rw [← hlen] at hlc h1 HR ⊢
  have HL := Lib.hid hlen
  have HB := Lib.hid hb
  clear hlen hb hr
  unfold maxLen at hc
  go_enter Try.func7, Try.ntmps7
  go_wp2_with fail
  go_loopw [3, 4] (fun v i wr => ∃ j : Nat, j ≤ len ∧ i = .int .i64 j ∧ Rd wr v (nus .u8 (joined ls j)) ∧ Below w.heap.size w wr) (fun _ i _ => len - (intOf i).toNat)
  case atStart => exact ⟨0, Nat.zero_le _, rfl, rd_nil _ _, Below.refl _ _⟩
  case round =>
    obtain ⟨j, hj, rfl, hv, hB⟩ := hrel
    have HV := Lib.hid hv
    have HBB := Lib.hid hB
    clear hv hB
    by_cases hlt : j < len
    · obtain ⟨b0, o0, rfl, g0⟩ := (HR.out.below HBB.out).cells (by omega)
      have p0 := g0 j hlt
      clear g0
      obtain ⟨x, hx⟩ : ∃ x, x = ls.getD j 0 := ⟨_, rfl⟩
      have hxb : x < 18446744073709551616 := by
        rw [hx]
        have hj' : j < ls.length := by rw [← HL.out]; exact hlt
        rw [List.getD_eq_getElem?_getD, List.getElem?_eq_getElem hj']
        exact HB.out _ (List.getElem_mem hj')
      rw [← hx] at p0
      have hjl := joined_le ls j
      have HXX := Lib.hid hx
      clear hx
      have h4 : j % 4 = 0 ∨ j % 4 = 1 ∨ j % 4 = 2 ∨ j % 4 = 3 := by omega
      rcases h4 with h4 | h4 | h4 | h4
      · have hmod : (j : Int) % 4 = 0 := by omega
        have hj1 : joined ls (j + 1) = joined ls j ++ bg 1 (x % 256) := by
          rw [joined, show sz j = 1 from by unfold sz; rw [h4], show bg 1 (x % 256) = bg 1 x from bg_mod 1 x, HXX.out]
        have HJ := Lib.hid hj1
        clear h4 hj1
        go_wp2_with fail
        rw [show (x : Int) % 256 = ((x % 256 : Nat) : Int) from by omega]
        refine (app8_any _ (joined ls j) (x % 256) wr HV.out (by omega) (by omega)).mono ?_
        rintro e W1 ⟨z, rfl, hown, hb1⟩
        have hrd := Rd.own hown
        rw [← HJ.out] at hrd
        have HRD := Lib.hid hrd
        have HBN := Lib.hid (HBB.out.trans (hb1.mono HBB.out.size))
        clear hown hb1 hrd p0
        go_wp2
        go_roundw
        case rel => exact ⟨j + 1, by omega, by go_num, HRD.out, HBN.out⟩
        case measure => simp [intOf]; omega
      · have hmod : (j : Int) % 4 = 1 := by omega
        have hj1 : joined ls (j + 1) = joined ls j ++ bg 2 (x % 65536) := by
          rw [joined, show sz j = 2 from by unfold sz; rw [h4], show bg 2 (x % 65536) = bg 2 x from bg_mod 2 x, HXX.out]
        have HJ := Lib.hid hj1
        clear h4 hj1
        go_wp2_with fail
        rw [show IntKind.u16.wrap (x : Int) = ((x % 65536 : Nat) : Int) from by rw [IntKind.wrap_u16]; omega]
        refine (app16_any _ (joined ls j) (x % 65536) wr HV.out (by omega) (by omega)).mono ?_
        rintro e W1 ⟨z, rfl, hown, hb1⟩
        have hrd := Rd.own hown
        rw [← HJ.out] at hrd
        have HRD := Lib.hid hrd
        have HBN := Lib.hid (HBB.out.trans (hb1.mono HBB.out.size))
        clear hown hb1 hrd p0
        go_wp2
        go_roundw
        case rel => exact ⟨j + 1, by omega, by go_num, HRD.out, HBN.out⟩
        case measure => simp [intOf]; omega
      · have hmod : (j : Int) % 4 = 2 := by omega
        have hj1 : joined ls (j + 1) = joined ls j ++ bg 4 (x % 4294967296) := by
          rw [joined, show sz j = 4 from by unfold sz; rw [h4], show bg 4 (x % 4294967296) = bg 4 x from bg_mod 4 x, HXX.out]
        have HJ := Lib.hid hj1
        clear h4 hj1
        go_wp2_with fail
        rw [show (x : Int) % 4294967296 = ((x % 4294967296 : Nat) : Int) from by omega]
        refine (app32_any _ (joined ls j) (x % 4294967296) wr HV.out (by omega) (by omega)).mono ?_
        rintro e W1 ⟨z, rfl, hown, hb1⟩
        have hrd := Rd.own hown
        rw [← HJ.out] at hrd
        have HRD := Lib.hid hrd
        have HBN := Lib.hid (HBB.out.trans (hb1.mono HBB.out.size))
        clear hown hb1 hrd p0
        go_wp2
        go_roundw
        case rel => exact ⟨j + 1, by omega, by go_num, HRD.out, HBN.out⟩
        case measure => simp [intOf]; omega
      · have hmod : (j : Int) % 4 = 3 := by omega
        have hj1 : joined ls (j + 1) = joined ls j ++ bg 8 x := by
          rw [joined, show sz j = 8 from by unfold sz; rw [h4], HXX.out]
        have HJ := Lib.hid hj1
        clear h4 hj1
        go_wp2_with fail
        refine (app64_any _ (joined ls j) x wr HV.out (by omega) (by omega)).mono ?_
        rintro e W1 ⟨z, rfl, hown, hb1⟩
        have hrd := Rd.own hown
        rw [← HJ.out] at hrd
        have HRD := Lib.hid hrd
        have HBN := Lib.hid (HBB.out.trans (hb1.mono HBB.out.size))
        clear hown hb1 hrd p0
        go_wp2
        go_roundw
        case rel => exact ⟨j + 1, by omega, by go_num, HRD.out, HBN.out⟩
        case measure => simp [intOf]; omega
    · obtain rfl : j = len := by omega
      clear hlt
      obtain ⟨ab, cb, rfl, hl1, hl2⟩ := rd_shape HV.out
      obtain ⟨L, hL⟩ : ∃ L, L = (joined ls j).length := ⟨_, rfl⟩
      have hLb : L ≤ 400 := by have := joined_le ls j; omega
      have HLL := Lib.hid hL
      have hsub : Value.slice ab (joined ls j).length cb = Value.slice ab L cb := by rw [hL]
      rw [hsub] at HV ⊢
      clear hsub hL hl1 hl2
      go_wp2_with fail
      go_loop [5, 6] (fun p i => ∃ t P : Nat, t ≤ j ∧ i = .int .i64 t ∧ p = .int .i64 (P : Int) ∧ P = (joined ls t).length) (fun _ i => j - (intOf i).toNat)
      case atStart => exact ⟨0, 0, Nat.zero_le _, rfl, rfl, rfl⟩
      case round =>
        obtain ⟨t, P, ht, rfl, rfl, hP⟩ := hrel
        by_cases hlt : t < j
        · obtain ⟨b0, o0, rfl, g0⟩ := (HR.out.below HBB.out).cells (by omega)
          have p0 := g0 t hlt
          clear g0
          obtain ⟨x, hx⟩ : ∃ x, x = ls.getD t 0 := ⟨_, rfl⟩
          have hxb : x < 18446744073709551616 := by
            rw [hx]
            have hj' : t < ls.length := by rw [← HL.out]; exact hlt
            rw [List.getD_eq_getElem?_getD, List.getElem?_eq_getElem hj']
            exact HB.out _ (List.getElem_mem hj')
          rw [← hx] at p0
          have hfit := joined_fits ls t j hlt
          have hat := joined_at ls t j hlt
          have hPL : P ≤ L := by rw [HLL.out, hP]; omega
          rw [← hP] at hfit hat
          rw [← hx] at hat
          have HP1 : Hid (P + sz t = (joined ls (t + 1)).length) := by rw [joined_length, ← hP]; exact rfl
          have HXX := Lib.hid hx
          have HF := Lib.hid hfit
          have HA := Lib.hid hat
          clear hx hfit hat hP
          have h4 : t % 4 = 0 ∨ t % 4 = 1 ∨ t % 4 = 2 ∨ t % 4 = 3 := by omega
          rcases h4 with h4 | h4 | h4 | h4
          · have hmod : (t : Int) % 4 = 0 := by omega
            have hsz : sz t = 1 := by unfold sz; rw [h4]
            have hf := HF.out
            have ha := HA.out
            have hp1 := HP1.out
            rw [hsz] at hf ha hp1
            have hbe := be_bg 1 x
            rw [← ha] at hbe
            obtain ⟨y, hy⟩ : ∃ y, y = x % 256 ^ 1 := ⟨_, rfl⟩
            rw [← hy] at hbe
            have hyb : y < 256 := by rw [hy]; exact Nat.mod_lt _ (by decide)
            have hxor : bits .xor .u64 (y : Int) (bits .and .u64 (x : Int) 255) = 0 := by rw [hy]; exact xor_low8 x hxb
            have HF1 := Lib.hid hf
            have HBE := Lib.hid hbe
            have HP2 := Lib.hid hp1
            clear h4 hsz hf ha hp1 hbe hy HF HA HP1
            go_wp2_with fail
            refine (get8_yes _ P (joined ls j) wr HV.out (joined_lt ls j) HF1.out).mono ?_
            rintro e w' ⟨rfl, rfl⟩
            rw [HBE.out]
            go_wp2
            go_round
            case rel => exact ⟨t + 1, P + 1, by omega, by go_num, by go_num, HP2.out⟩
            case measure => simp [intOf]; omega
          · have hmod : (t : Int) % 4 = 1 := by omega
            have hsz : sz t = 2 := by unfold sz; rw [h4]
            have hf := HF.out
            have ha := HA.out
            have hp1 := HP1.out
            rw [hsz] at hf ha hp1
            have hbe := be_bg 2 x
            rw [← ha] at hbe
            obtain ⟨y, hy⟩ : ∃ y, y = x % 256 ^ 2 := ⟨_, rfl⟩
            rw [← hy] at hbe
            have hyb : y < 65536 := by rw [hy]; exact Nat.mod_lt _ (by decide)
            have hxor : bits .xor .u64 (y : Int) (bits .and .u64 (x : Int) 65535) = 0 := by rw [hy]; exact xor_low16 x hxb
            have HF1 := Lib.hid hf
            have HBE := Lib.hid hbe
            have HP2 := Lib.hid hp1
            clear h4 hsz hf ha hp1 hbe hy HF HA HP1
            go_wp2_with fail
            refine (get16_yes _ P (joined ls j) wr HV.out (joined_lt ls j) HF1.out).mono ?_
            rintro e w' ⟨rfl, rfl⟩
            rw [HBE.out]
            go_wp2
            go_round
            case rel => exact ⟨t + 1, P + 2, by omega, by go_num, by go_num, HP2.out⟩
            case measure => simp [intOf]; omega
          · have hmod : (t : Int) % 4 = 2 := by omega
            have hsz : sz t = 4 := by unfold sz; rw [h4]
            have hf := HF.out
            have ha := HA.out
            have hp1 := HP1.out
            rw [hsz] at hf ha hp1
            have hbe := be_bg 4 x
            rw [← ha] at hbe
            obtain ⟨y, hy⟩ : ∃ y, y = x % 256 ^ 4 := ⟨_, rfl⟩
            rw [← hy] at hbe
            have hyb : y < 4294967296 := by rw [hy]; exact Nat.mod_lt _ (by decide)
            have hxor : bits .xor .u64 (y : Int) (bits .and .u64 (x : Int) 4294967295) = 0 := by rw [hy]; exact xor_low32 x hxb
            have HF1 := Lib.hid hf
            have HBE := Lib.hid hbe
            have HP2 := Lib.hid hp1
            clear h4 hsz hf ha hp1 hbe hy HF HA HP1
            go_wp2_with fail
            refine (get32_yes _ P (joined ls j) wr HV.out (joined_lt ls j) HF1.out).mono ?_
            rintro e w' ⟨rfl, rfl⟩
            rw [HBE.out]
            go_wp2
            go_round
            case rel => exact ⟨t + 1, P + 4, by omega, by go_num, by go_num, HP2.out⟩
            case measure => simp [intOf]; omega
          · have hmod : (t : Int) % 4 = 3 := by omega
            have hsz : sz t = 8 := by unfold sz; rw [h4]
            have hf := HF.out
            have ha := HA.out
            have hp1 := HP1.out
            rw [hsz] at hf ha hp1
            have hbe := be_bg 8 x
            rw [← ha] at hbe
            obtain ⟨y, hy⟩ : ∃ y, y = x % 256 ^ 8 := ⟨_, rfl⟩
            rw [← hy] at hbe
            have hyb : y < 18446744073709551616 := by rw [hy]; exact Nat.mod_lt _ (by decide)
            have hxor : bits .xor .u64 (y : Int) (x : Int) = 0 := by rw [hy, Nat.mod_eq_of_lt hxb]; exact xor_low64 x hxb
            have HF1 := Lib.hid hf
            have HBE := Lib.hid hbe
            have HP2 := Lib.hid hp1
            clear h4 hsz hf ha hp1 hbe hy HF HA HP1
            go_wp2_with fail
            refine (get64_yes _ P (joined ls j) wr HV.out (joined_lt ls j) HF1.out).mono ?_
            rintro e w' ⟨rfl, rfl⟩
            rw [HBE.out]
            go_wp2
            go_round
            case rel => exact ⟨t + 1, P + 8, by omega, by go_num, by go_num, HP2.out⟩
            case measure => simp [intOf]; omega
        · obtain rfl : t = j := by omega
          have hPL : P = L := by rw [HLL.out]; exact hP
          subst hPL
          clear hlt hP
          go_wp2_with fail
          refine (awake_any _).mono ?_
          rintro e w3 ⟨rfl, hb3⟩
          go_wp2
          go_ret
          exact ⟨rfl, HBB.out.trans (hb3.mono HBB.out.size)⟩

theorem joins_walk (va : Value) (ls : List Nat) (w : World) (hr : Rd w va (nus .u64 ls)) (hb : ∀ c ∈ ls, c < 18446744073709551616) :
    Calls Try.prog 7 #[va] w fun e w' => e = .returned (.bool true) ∧ Below w.heap.size w w' := by
  by_cases h : 50 < ls.length
  · obtain ⟨a, cap, rfl, hlc, hc⟩ := rd_shape hr
    exact joins_walk_long a ls.length cap w (by omega) h
  · exact joins_walk_short va ls w hr hb (by omega)
end Go.Proofs.Yteepkefnighjoaa
