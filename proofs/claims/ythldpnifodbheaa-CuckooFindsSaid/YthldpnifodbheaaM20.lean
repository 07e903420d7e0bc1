/- Texts that the walks of this seat lean on, put together. -/
import Derived.Laws.CopyOwn
import Derived.Handy
import Derived.BigQuiet
import Derived.Deep.QuietTactic
import Derived.RangeFuncNested
import Derived.RangeFuncBound
import Derived.RangeFuncCalls
import Derived.RangeFuncLeaves
import Derived.RangeFuncBox
import Derived.Shelf.Abstract
import Derived.Shelf.RegionOpen
import Derived.OwnWalkIn
import Derived.TacticsInMore
import Derived.LoopNIn
import Derived.LoopIn
import Derived.Maps.AppendAt
import Derived.WalkKit
import Derived.WalkSmall
import Derived.Lib.QuietBelow
import Derived.LoopTactic
import Derived.Test.YthldpnifodbheaaTk
import Derived.Test.YthldpnifodbheaaTl
import Derived.Test.YthldpnifodbheaaM04
import Derived.Test.YthldpnifodbheaaM05
import Derived.Test.YthldpnifodbheaaM06
import Derived.Test.YthldpnifodbheaaM10
import Derived.Test.YthldpnifodbheaaM11
import Derived.Test.YthldpnifodbheaaM14
namespace Go.Proofs.Ythldpnifodbheaa
open Go.RowKit
def gr (u : Nat) : Nat := if u = 0 then 0 else (u - 1) % 65535 + 1
def wt (p : Nat) : Nat := if p % 2 = 0 then 256 else 1
def wsp : Nat → List Nat → Nat
  | _, [] => 0
  | p, x :: r => x * wt p + wsp (p + 1) r
def w2 (E : List Nat) (j : Nat) : Nat := E.getD (2 * j) 0 * 256 + E.getD (2 * j + 1) 0
def ck (b : List Nat) : Nat := 65535 - gr (wsp 0 b)
end Go.Proofs.Ythldpnifodbheaa
namespace Go.Proofs.Ythldpnifodbheaa
open Go.RowKit Go.Shelf
attribute [local go_sem] Oper.semAt_some
def nw (zs : List Nat) : Nat := (zs.length + 1) / 2
end Go.Proofs.Ythldpnifodbheaa
namespace Go.Proofs.Ythldpnifodbheaa
open Go.RowKit
set_option maxRecDepth 100000 in
theorem own_at {w : World} {base n : Nat} {e : TypeId} {v : Value} {xs : List Value} (h : w.ownsRow base e 1 v n xs) (h0 : 0 < n) : ∃ g cap, v = .slice (some ⟨g, 0, none⟩) n cap ∧ n ≤ cap ∧ cap ≤ maxLen ∧ base ≤ g ∧ g < w.heap.size := by
  rcases h.2 with ⟨-, h1⟩ | ⟨g, cap, cur, rfl, hg, h2, hnc, hcm, _⟩
  · omega
  · exact ⟨g, cap, rfl, hnc, hcm, hg, (Array.getElem?_eq_some_iff.1 h2).1⟩
end Go.Proofs.Ythldpnifodbheaa
namespace Go.Proofs.Ythldpnifodbheaa
open Go.RowKit Go.Lib
set_option maxRecDepth 100000 in
theorem xor_mod256 (r c : Nat) (h : c < 256) : (r % 256) ^^^ c = (r ^^^ c) % 256 := by
  have := Nat.xor_mod_two_pow (a := r) (b := c) (n := 8)
  rw [show (2 : Nat) ^ 8 = 256 from rfl] at this
  rw [this, Nat.mod_eq_of_lt h]
set_option maxRecDepth 100000 in
theorem not_u32 (s : Nat) (h : s < 4294967296) : bits .xor .u32 IntKind.u32.max (s : Int) = ((s ^^^ ones : Nat) : Int) := by
  rw [Nat.xor_comm]
  exact u32_xor_nat 4294967295 s (by decide) h
set_option maxRecDepth 100000 in
theorem xor_u8 (a b : Nat) (ha : a < 256) (hb : b < 256) : bits .xor .u8 (a : Int) (b : Int) = ((a ^^^ b : Nat) : Int) := u8_xor_nat a b ha hb
set_option maxRecDepth 100000 in
theorem regC_step (p r k R : Nat) (bs : List Nat) (hk : k < bs.length) (h : regC p r (bs.drop k) = R) : regC p (byB p r (bs.getD k 0)) (bs.drop (k + 1)) = R := by
  rw [List.drop_eq_getElem_cons hk] at h
  rw [List.getD_eq_getElem?_getD, List.getElem?_eq_getElem hk]
  exact h
set_option maxRecDepth 100000 in
theorem tabC_lt (p n : Nat) (hp : p < 4294967296) (hn : n < 4294967296) : tabC p n < 4294967296 := stpN_lt p hp 8 n hn
set_option maxRecDepth 100000 in
set_option maxHeartbeats 400000 in
theorem of_any (p s : Nat) (hp : p < 4294967296) (hs : s < 4294967296) (v : Value) (bs : List Nat) (hb : ∀ c ∈ bs, c < 256) (w : World) (hv : Rd w v (nus .u8 bs)) :
    Calls Try.prog 86 #[.agg (tcs (tabL p)), .int .u32 (s : Int), v] w fun e w' => e = .returned (.int .u32 ((crcC p s bs : Nat) : Int)) ∧ Below w.heap.size w w' := by
  obtain ⟨a, cap, rfl, hcap, hmax⟩ := rd_shape hv
  have K0 := lh ((Below.refl w.heap.size w).alloc (Nat.le_refl _) (.cells (tcs (tabL p)) 107))
  have B0 := lh (Blk.new w 107 (tcs (tabL p)))
  have V0 := lh (hv.below K0.out)
  have hn := not_u32 s hs
  have hr0 := Nat.xor_lt_two_pow (n := 32) hs (show ones < 2 ^ 32 by decide)
  have hd : regC p (s ^^^ ones) bs ^^^ ones = crcC p s bs := rfl
  have HD := lh hd
  obtain ⟨R, hR⟩ : ∃ R, R = regC p (s ^^^ ones) bs := ⟨_, rfl⟩
  rw [← hR] at HD
  obtain ⟨r0, hr⟩ : ∃ r, r = s ^^^ ones := ⟨_, rfl⟩
  rw [← hr] at hR hr0 hn
  have HR := lh hR.symm
  have HB := lh (fun k => getD_lt bs hb k)
  have hR32 : R < 4294967296 := by rw [hR]; exact regC_lt p hp bs r0 hr0 hb
  have hN := not_u32 R hR32
  clear hv hb hR hr hd
  go_enter Try.func86, Try.ntmps86
  have sg : IntKind.u32.signed = false := rfl
  go_wp2
  go_loopw [7, 9, 14] (fun r c i wr => ∃ (k x : Nat), k ≤ bs.length ∧ i = .int .i64 (k : Int) ∧ r = .int .u32 (x : Int) ∧ Hid (x < 4294967296 ∧ regC p x (bs.drop k) = R) ∧ Hid (Blk wr w.heap.size 107 (tcs (tabL p))) ∧ Hid (Rd wr (.slice a bs.length cap) (nus .u8 bs)) ∧ Hid (Below w.heap.size w wr)) (fun _ _ i _ => bs.length - (RowKit.intOf i).toNat)
  case atStart => exact ⟨0, r0, by omega, rfl, rfl, ⟨hr0, HR.out⟩, B0, V0, K0⟩
  case round =>
    obtain ⟨k, x, hk, rfl, rfl, hx, hB, hV, hK⟩ := hrel
    clear B0 K0 V0 HR
    have hmx := hmax
    unfold maxLen at hmx
    by_cases hlt : k < bs.length
    · have d8 : decide ((k : Int) < (bs.length : Int)) = true := decide_eq_true (by omega)
      obtain ⟨b, off, rfl, hc⟩ := hV.out.cells (by omega)
      have hc2 := hc k hlt
      have HX := lh (regC_step p x k R bs hlt hx.out.2)
      have hy := HB.out k
      have hxx := hx.out.1
      generalize bs.getD k 0 = y at hc2 HX hy
      have HE := lh (by_eq p x y hy)
      have HL := lh (byB_lt p x y hp hxx hy)
      obtain ⟨j, hj⟩ : ∃ j, j = (x ^^^ y) % 256 := ⟨_, rfl⟩
      have hj2 : j < 256 := by omega
      have w1 : IntKind.u8.wrap (x : Int) = ((x % 256 : Nat) : Int) := by rw [IntKind.wrap_u8]; omega
      have x1 : bits .xor .u8 ((x % 256 : Nat) : Int) (y : Int) = (j : Int) := by rw [xor_u8 _ _ (by omega) hy, xor_mod256 _ _ hy, hj]
      have hc3 := hB.out.cell j
      rw [tcs_at _ j (by rw [tabL_len]; exact hj2), tabL_at _ _ hj2] at hc3
      have X2 := lh (xor_u32 (x / 256) (tabC p j) (by omega) (tabC_lt p j hp (by omega)))
      have hby : x / 256 ^^^ tabC p j = byT p x y := by unfold byT; rw [hj]
      have HY := lh hby
      have hd : (x : Int) / 256 = ((x / 256 : Nat) : Int) := by omega
      have HD2 := lh hd
      have W1 := lh w1
      have X1 := lh x1
      clear hby hd hc hj HB w1 x1
      obtain ⟨xm, hxm⟩ : ∃ xm, xm = x % 256 := ⟨_, rfl⟩
      rw [← hxm] at W1 X1
      have w1 := W1.out
      have x1 := X1.out
      clear hxm
      go_wp2_with fail
      go_roundw
      case rel => exact ⟨k + 1, byB p x y, Nat.succ_le_of_lt hlt, by go_num, by rw [← HE.out, ← HY.out, HD2.out, X2.out], ⟨HL.out, HX.out⟩, hB, hV, hK⟩
      case measure => simp [RowKit.intOf]; omega
    · obtain rfl : k = bs.length := by omega
      have d16 : decide (((bs.length : Nat) : Int) < (bs.length : Int)) = false := decide_eq_false (by omega)
      have hq := hx.out.2
      rw [List.drop_length] at hq
      have HQ : x = R := hq
      subst HQ
      clear hq
      go_wp2
      go_ret
      exact ⟨by rw [HD.out]; rfl, hK.out⟩
end Go.Proofs.Ythldpnifodbheaa
namespace Go.Proofs.Ythldpnifodbheaa
open Go.RowKit Go.Lib
set_option maxRecDepth 100000 in
theorem xor_ones (s : Nat) (h : s < 4294967296) : bits .xor .u32 (s : Int) 4294967295 = ((s ^^^ ones : Nat) : Int) := u32_xor_nat s 4294967295 h (by decide)
set_option maxRecDepth 100000 in
set_option maxHeartbeats 400000 in
theorem crc_any (p s : Nat) (hp : p < 4294967296) (hs : s < 4294967296) (v : Value) (bs : List Nat) (hb : ∀ c ∈ bs, c < 256) (w : World) (hv : Rd w v (nus .u8 bs)) :
    Calls Try.prog 57 #[.int .u32 (p : Int), .int .u32 (s : Int), v] w fun e w' => e = .returned (.int .u32 ((crcC p s bs : Nat) : Int)) ∧ w = w' := by
  obtain ⟨a, cap, rfl, hcap, hmax⟩ := rd_shape hv
  have hn := xor_ones s hs
  have hr0 := Nat.xor_lt_two_pow (n := 32) hs (show ones < 2 ^ 32 by decide)
  have hd : regC p (s ^^^ ones) bs ^^^ ones = crcC p s bs := rfl
  have HD := lh hd
  obtain ⟨R, hR⟩ : ∃ R, R = regC p (s ^^^ ones) bs := ⟨_, rfl⟩
  rw [← hR] at HD
  obtain ⟨r0, hr⟩ : ∃ r, r = s ^^^ ones := ⟨_, rfl⟩
  rw [← hr] at hR hr0 hn
  have HR := lh hR.symm
  have HB := lh (fun k => getD_lt bs hb k)
  have hR32 : R < 4294967296 := by rw [hR]; exact regC_lt p hp bs r0 hr0 hb
  have hN := xor_ones R hR32
  have V0 := lh hv
  clear hv hb hR hr hd
  go_enter Try.func57, Try.ntmps57
  go_wp2
  go_loopw [7, 8, 9] (fun r i j wr => ∃ (k x : Nat), k ≤ bs.length ∧ i = .int .i64 (k : Int) ∧ r = .int .u32 (x : Int) ∧ Hid (x < 4294967296 ∧ regC p x (bs.drop k) = R) ∧ w = wr) (fun _ i _ _ => bs.length - (RowKit.intOf i).toNat)
  case atStart => exact ⟨0, r0, by omega, rfl, rfl, ⟨hr0, HR.out⟩, rfl⟩
  case round =>
    obtain ⟨k, x, hk, rfl, rfl, hx, rfl⟩ := hrel
    clear HR
    have hmx := hmax
    unfold maxLen at hmx
    by_cases hlt : k < bs.length
    · have d8 : decide ((k : Int) < (bs.length : Int)) = true := decide_eq_true (by omega)
      obtain ⟨b, off, rfl, hc⟩ := V0.out.cells (by omega)
      have hc2 := hc k hlt
      have HX := lh (regC_step p x k R bs hlt hx.out.2)
      have hy := HB.out k
      have hxx := hx.out.1
      generalize bs.getD k 0 = y at hc2 HX hy
      have HL := lh (byB_lt p x y hp hxx hy)
      obtain ⟨z, hz⟩ : ∃ z, z = x ^^^ y := ⟨_, rfl⟩
      have hz32 : z < 4294967296 := by rw [hz]; exact Nat.xor_lt_two_pow (n := 32) hxx (by omega)
      have hz0 : stpN p (8 - 0) z = byB p x y := by rw [hz]; rfl
      have w1 : IntKind.u32.wrap (y : Int) = (y : Int) := by rw [IntKind.wrap_u32]; omega
      have x1 : bits .xor .u32 (x : Int) (y : Int) = (z : Int) := by rw [xor_u32 _ _ hxx (by omega), hz]
      have HZ := lh hz0
      obtain ⟨B, hB⟩ : ∃ B, B = byB p x y := ⟨_, rfl⟩
      rw [← hB] at HZ HX HL
      clear hc HB hz0 hz hB
      go_wp2
      go_loopw [7, 9] (fun r j wr => ∃ (l q : Nat), l ≤ 8 ∧ j = .int .i64 (l : Int) ∧ r = .int .u32 (q : Int) ∧ Hid (q < 4294967296 ∧ stpN p (8 - l) q = B) ∧ w = wr) (fun _ j _ => 8 - (RowKit.intOf j).toNat)
      case atStart => exact ⟨0, z, by omega, rfl, rfl, ⟨hz32, HZ.out⟩, rfl⟩
      case round =>
        obtain ⟨l, q, hl, rfl, rfl, hq, rfl⟩ := hrel
        clear hc2 hx x1 w1
        by_cases hll : l < 8
        · have d9 : decide ((l : Int) < 8) = true := decide_eq_true (by omega)
          have A1 := lh (and1_u32 q hq.out.1)
          have X1 := lh (xor_u32 (q / 2) p (by have := hq.out.1; omega) hp)
          have hq2 := lh (stp_lt p q hp hq.out.1)
          have hN2 := lh (stpN_next p l q _ hll hq.out.2)
          have hd : (q : Int) / 2 = ((q / 2 : Nat) : Int) := by omega
          have HD2 := lh hd
          clear hd
          have hm : q % 2 = 0 ∨ q % 2 = 1 := by omega
          rcases hm with hm | hm
          · have hS := lh (stp_not p q hm)
            have a1 : bits .and .u32 (q : Int) 1 = 0 := by rw [A1.out, hm]; rfl
            go_wp2
            go_roundw
            case rel => exact ⟨l + 1, stp p q, Nat.succ_le_of_lt hll, by go_num, by rw [hS.out, HD2.out], ⟨hq2.out, hN2.out⟩, trivial⟩
            case measure => simp [RowKit.intOf]; omega
          · have hS := lh (stp_odd p q hm)
            have a1 : bits .and .u32 (q : Int) 1 = 1 := by rw [A1.out, hm]; rfl
            go_wp2
            go_roundw
            case rel => exact ⟨l + 1, stp p q, Nat.succ_le_of_lt hll, by go_num, by rw [hS.out, HD2.out, X1.out], ⟨hq2.out, hN2.out⟩, trivial⟩
            case measure => simp [RowKit.intOf]; omega
        · obtain rfl : l = 8 := by omega
          have d16 : decide (((8 : Nat) : Int) < 8) = false := by decide
          have HQ : q = B := hq.out.2
          subst HQ
          go_wp2
          go_roundw
          case rel => exact ⟨k + 1, q, Nat.succ_le_of_lt hlt, by go_num, rfl, ⟨HL.out, HX.out⟩, trivial⟩
          case measure => simp [RowKit.intOf]; omega
    · obtain rfl : k = bs.length := by omega
      have d16 : decide (((bs.length : Nat) : Int) < (bs.length : Int)) = false := decide_eq_false (by omega)
      have hq := hx.out.2
      rw [List.drop_length] at hq
      have HQ : x = R := hq
      subst HQ
      clear hq
      go_wp2
      go_ret
      exact ⟨by rw [HD.out]; rfl, rfl⟩
end Go.Proofs.Ythldpnifodbheaa
namespace Go.Proofs.Ythldpnifodbheaa
open Go.RowKit Go.Lib
set_option maxRecDepth 100000 in
set_option maxHeartbeats 400000 in
theorem known_any (w : World) :
    Calls Try.prog 47 #[] w fun e w' => e = .returned (.slice (some ⟨w.heap.size, 0, none⟩) 4 4) ∧ Blk w' w.heap.size 27 (tcs knownC) ∧ Below w.heap.size w w' := by
  have B := lh (Blk.new w 27 (tcs knownC))
  have K := lh ((Below.refl w.heap.size w).alloc (Nat.le_refl _) (.cells (tcs knownC) 27))
  go_enter Try.func47, Try.ntmps47
  go_wp2
  go_ret
  exact ⟨rfl, B.out, K.out⟩
set_option maxRecDepth 100000 in
set_option maxHeartbeats 400000 in
theorem rknown_any (n : Int) (w : World) :
    Calls Try.prog 58 #[.int .i64 n] w fun e w' => e = .returned (.int .u32 ((knownC.getD (n % 4).toNat 0 : Nat) : Int)) ∧ Below w.heap.size w w' := by
  have B := lh (Blk.new w 27 (tcs knownC))
  have K := lh ((Below.refl w.heap.size w).alloc (Nat.le_refl _) (.cells (tcs knownC) 27))
  have a1 := Int.lt_tmod_of_pos n (show (0 : Int) < 4 by decide)
  have a2 := Int.tmod_lt_of_pos n (show (0 : Int) < 4 by decide)
  have hm := lh (round_math n 4 (by decide))
  go_enter Try.func58, Try.ntmps58
  have hl : [Value.int IntKind.u32 3988292384, Value.int IntKind.u32 2197175160, Value.int IntKind.u32 3945912366, Value.int IntKind.u32 3582100097][(n.tmod 4 % 4).toNat]? = some (.int .u32 ((knownC.getD (n % 4).toNat 0 : Nat) : Int)) := by
    have e : n.tmod 4 % 4 = n % 4 := by rw [← hm.out, Int.add_emod_right]
    rw [e]
    have h : n % 4 = 0 ∨ n % 4 = 1 ∨ n % 4 = 2 ∨ n % 4 = 3 := by omega
    rcases h with h | h | h | h <;> rw [h] <;> rfl
  go_wp2
  go_ret
  exact ⟨rfl, K.out⟩
end Go.Proofs.Ythldpnifodbheaa
