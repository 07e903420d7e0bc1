/- crc.Of: a row's check. -/
import Derived.Test.YthgcgkfcofomcaaS16b
import Derived.Test.YthgcgkfcofomcaaRow
import Derived.LoopTactic
import Derived.Handy
namespace Go.Proofs.Ythgcgkfcofomcaa
open Go.RowKit Go.Lib

theorem xor_mod256 (r c : Nat) (h : c < 256) : (r % 256) ^^^ c = (r ^^^ c) % 256 := by
  have := Nat.xor_mod_two_pow (a := r) (b := c) (n := 8)
  rw [show (2 : Nat) ^ 8 = 256 from rfl] at this
  rw [this, Nat.mod_eq_of_lt h]
theorem not_u32 (s : Nat) (h : s < 4294967296) : bits .xor .u32 IntKind.u32.max (s : Int) = ((s ^^^ ones : Nat) : Int) := by
  rw [Nat.xor_comm]
  exact u32_xor_nat 4294967295 s (by decide) h
theorem xor_u8 (a b : Nat) (ha : a < 256) (hb : b < 256) : bits .xor .u8 (a : Int) (b : Int) = ((a ^^^ b : Nat) : Int) := u8_xor_nat a b ha hb
theorem regC_step (p r k R : Nat) (bs : List Nat) (hk : k < bs.length) (h : regC p r (bs.drop k) = R) : regC p (byB p r (bs.getD k 0)) (bs.drop (k + 1)) = R := by
  rw [List.drop_eq_getElem_cons hk] at h
  rw [List.getD_eq_getElem?_getD, List.getElem?_eq_getElem hk]
  exact h
theorem byT_lt (p r c : Nat) (hp : p < 4294967296) (hr : r < 4294967296) (hc : c < 256) : byT p r c < 4294967296 := by rw [by_eq p r c hc]; exact byB_lt p r c hp hr hc
theorem tabC_lt (p n : Nat) (hp : p < 4294967296) (hn : n < 4294967296) : tabC p n < 4294967296 := stpN_lt p hp 8 n hn

set_option maxRecDepth 100000 in
set_option maxHeartbeats 400000 in
theorem of_any (p s : Nat) (hp : p < 4294967296) (hs : s < 4294967296) (v : Value) (bs : List Nat) (hb : ∀ c ∈ bs, c < 256) (w : World) (hv : Rd w v (nus .u8 bs)) :
    Calls Try.prog 12 #[.agg (tcs (tabL p)), .int .u32 (s : Int), v] w fun e w' => e = .returned (.int .u32 ((crcC p s bs : Nat) : Int)) ∧ Below w.heap.size w w' := by
  obtain ⟨a, cap, rfl, hcap, hmax⟩ := rd_shape hv
  have K0 := Lib.hid ((Below.refl w.heap.size w).alloc (Nat.le_refl _) (.cells (tcs (tabL p)) 26))
  have B0 := Lib.hid (Blk.new w 26 (tcs (tabL p)))
  have V0 := Lib.hid (hv.below K0.out)
  have hn := not_u32 s hs
  have hr0 := Nat.xor_lt_two_pow (n := 32) hs (show ones < 2 ^ 32 by decide)
  have hd : regC p (s ^^^ ones) bs ^^^ ones = crcC p s bs := rfl
  have HD := Lib.hid hd
  obtain ⟨R, hR⟩ : ∃ R, R = regC p (s ^^^ ones) bs := ⟨_, rfl⟩
  rw [← hR] at HD
  obtain ⟨r0, hr⟩ : ∃ r, r = s ^^^ ones := ⟨_, rfl⟩
  rw [← hr] at hR hr0 hn
  have HR := Lib.hid hR.symm
  have HB := Lib.hid (fun k => getD_lt bs hb k)
  have hR32 : R < 4294967296 := by rw [hR]; exact regC_lt p hp bs r0 hr0 hb
  have hN := not_u32 R hR32
  clear hv hb hR hr hd
  go_enter Try.func12, Try.ntmps12
  have sg : IntKind.u32.signed = false := rfl
  go_wp2
  go_loopw [7, 9, 14] (fun r c i wr => ∃ (k x : Nat), k ≤ bs.length ∧ i = .int .i64 (k : Int) ∧ r = .int .u32 (x : Int) ∧ Hid (x < 4294967296 ∧ regC p x (bs.drop k) = R) ∧ Hid (Blk wr w.heap.size 26 (tcs (tabL p))) ∧ Hid (Rd wr (.slice a bs.length cap) (nus .u8 bs)) ∧ Hid (Below w.heap.size w wr)) (fun _ _ i _ => bs.length - (RowKit.intOf i).toNat)
  case atStart => exact ⟨0, r0, by omega, rfl, rfl, ⟨hr0, HR.out⟩, B0, V0, K0⟩
  case round =>
    obtain ⟨k, x, hk, rfl, rfl, hx, hB, hV, hK⟩ := hrel
    clear B0 K0 V0 HR
    have hmx := hmax
    unfold maxLen at hmx
    by_cases hlt : k < bs.length
    · have d8 : decide ((k : Int) < (bs.length : Int)) = true := decide_eq_true (by omega)
      obtain ⟨b, off, rfl, hc⟩ := hV.out.cells (by omega)
      have hc2 := hc k hlt
      have HX := Lib.hid (regC_step p x k R bs hlt hx.out.2)
      have hy := HB.out k
      have hxx := hx.out.1
      generalize bs.getD k 0 = y at hc2 HX hy
      have HE := Lib.hid (by_eq p x y hy)
      have HL := Lib.hid (byB_lt p x y hp hxx hy)
      obtain ⟨j, hj⟩ : ∃ j, j = (x ^^^ y) % 256 := ⟨_, rfl⟩
      have hj2 : j < 256 := by omega
      have w1 : IntKind.u8.wrap (x : Int) = ((x % 256 : Nat) : Int) := by rw [IntKind.wrap_u8]; omega
      have x1 : bits .xor .u8 ((x % 256 : Nat) : Int) (y : Int) = (j : Int) := by rw [xor_u8 _ _ (by omega) hy, xor_mod256 _ _ hy, hj]
      have hc3 := hB.out.cell j
      rw [tcs_at _ j (by rw [tabL_len]; exact hj2), tabL_at _ _ hj2] at hc3
      have X2 := Lib.hid (xor_u32 (x / 256) (tabC p j) (by omega) (tabC_lt p j hp (by omega)))
      have hby : x / 256 ^^^ tabC p j = byT p x y := by unfold byT; rw [hj]
      have HY := Lib.hid hby
      have hd : (x : Int) / 256 = ((x / 256 : Nat) : Int) := by omega
      have HD2 := Lib.hid hd
      have W1 := Lib.hid w1
      have X1 := Lib.hid x1
      clear hby hd hc hj HB w1 x1
      obtain ⟨xm, hxm⟩ : ∃ xm, xm = x % 256 := ⟨_, rfl⟩
      rw [← hxm] at W1 X1
      have w1 := W1.out
      have x1 := X1.out
      clear hxm
      go_wp2_with fail
      go_roundw
      case rel => exact ⟨k + 1, byB p x y, Nat.succ_le_of_lt hlt, by go_num, by rw [← HE.out, ← HY.out, HD2.out, X2.out], ⟨HL.out, HX.out⟩, hB, hV, hK⟩
      case measure => simp [RowKit.intOf]; omega
    · obtain rfl : k = bs.length := by omega
      have d16 : decide (((bs.length : Nat) : Int) < (bs.length : Int)) = false := decide_eq_false (by omega)
      have hq := hx.out.2
      rw [List.drop_length] at hq
      have HQ : x = R := hq
      subst HQ
      clear hq
      go_wp2
      go_ret
      exact ⟨by rw [HD.out]; rfl, hK.out⟩
end Go.Proofs.Ythgcgkfcofomcaa
