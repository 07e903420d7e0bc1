/- Texts that the walks of this seat lean on, put together. -/
import Derived.LoopTactic
import Derived.Handy
import Derived.StillTailTactics
import Derived.Deep.CutBlock
import Derived.Deep.DeepCutAuto
import Derived.Test.YtblkpnjmmdbgnaaTk
import Derived.Test.YtblkpnjmmdbgnaaM06
import Derived.Test.YtblkpnjmmdbgnaaM10
import Derived.Test.YtblkpnjmmdbgnaaM13
import Derived.Test.YtblkpnjmmdbgnaaM16
import Derived.Test.YtblkpnjmmdbgnaaM26
import Derived.Test.YtblkpnjmmdbgnaaM30
import Derived.Test.YtblkpnjmmdbgnaaM31
import Derived.Test.YtblkpnjmmdbgnaaM32
namespace Go.Proofs.Ytblkpnjmmdbgnaa
open Go.RowKit Go.Lib
set_option maxRecDepth 100000 in
theorem xor_mod256 (r c : Nat) (h : c < 256) : (r % 256) ^^^ c = (r ^^^ c) % 256 := by
  have := Nat.xor_mod_two_pow (a := r) (b := c) (n := 8)
  rw [show (2 : Nat) ^ 8 = 256 from rfl] at this
  rw [this, Nat.mod_eq_of_lt h]
set_option maxRecDepth 100000 in
theorem not_u32 (s : Nat) (h : s < 4294967296) : bits .xor .u32 IntKind.u32.max (s : Int) = ((s ^^^ ones : Nat) : Int) := by
  rw [Nat.xor_comm]
  exact u32_xor_nat 4294967295 s (by decide) h
set_option maxRecDepth 100000 in
theorem xor_u8 (a b : Nat) (ha : a < 256) (hb : b < 256) : bits .xor .u8 (a : Int) (b : Int) = ((a ^^^ b : Nat) : Int) := u8_xor_nat a b ha hb
set_option maxRecDepth 100000 in
theorem regC_step (p r k R : Nat) (bs : List Nat) (hk : k < bs.length) (h : regC p r (bs.drop k) = R) : regC p (byB p r (bs.getD k 0)) (bs.drop (k + 1)) = R := by
  rw [List.drop_eq_getElem_cons hk] at h
  rw [List.getD_eq_getElem?_getD, List.getElem?_eq_getElem hk]
  exact h
set_option maxRecDepth 100000 in
theorem tabC_lt (p n : Nat) (hp : p < 4294967296) (hn : n < 4294967296) : tabC p n < 4294967296 := stpN_lt p hp 8 n hn
set_option maxRecDepth 100000 in
set_option maxHeartbeats 400000 in
theorem of_any (p s : Nat) (hp : p < 4294967296) (hs : s < 4294967296) (v : Value) (bs : List Nat) (hb : ∀ c ∈ bs, c < 256) (w : World) (hv : Rd w v (nus .u8 bs)) :
    Calls Try.prog 57 #[.agg (tcs (tabL p)), .int .u32 (s : Int), v] w fun e w' => e = .returned (.int .u32 ((crcC p s bs : Nat) : Int)) ∧ Below w.heap.size w w' := by
  obtain ⟨a, cap, rfl, hcap, hmax⟩ := rd_shape hv
  have K0 := Lib.hid ((Below.refl w.heap.size w).alloc (Nat.le_refl _) (.cells (tcs (tabL p)) 70))
  have B0 := Lib.hid (Blk.new w 70 (tcs (tabL p)))
  have V0 := Lib.hid (hv.below K0.out)
  have hn := not_u32 s hs
  have hr0 := Nat.xor_lt_two_pow (n := 32) hs (show ones < 2 ^ 32 by decide)
  have hd : regC p (s ^^^ ones) bs ^^^ ones = crcC p s bs := rfl
  have HD := Lib.hid hd
  obtain ⟨R, hR⟩ : ∃ R, R = regC p (s ^^^ ones) bs := ⟨_, rfl⟩
  rw [← hR] at HD
  obtain ⟨r0, hr⟩ : ∃ r, r = s ^^^ ones := ⟨_, rfl⟩
  rw [← hr] at hR hr0 hn
  have HR := Lib.hid hR.symm
  have HB := Lib.hid (fun k => getD_lt bs hb k)
  have hR32 : R < 4294967296 := by rw [hR]; exact regC_lt p hp bs r0 hr0 hb
  have hN := not_u32 R hR32
  clear hv hb hR hr hd
  go_enter Try.func57, Try.ntmps57
  have sg : IntKind.u32.signed = false := rfl
  go_wp2
  go_loopw [7, 9, 14] (fun r c i wr => ∃ (k x : Nat), k ≤ bs.length ∧ i = .int .i64 (k : Int) ∧ r = .int .u32 (x : Int) ∧ Hid (x < 4294967296 ∧ regC p x (bs.drop k) = R) ∧ Hid (Blk wr w.heap.size 70 (tcs (tabL p))) ∧ Hid (Rd wr (.slice a bs.length cap) (nus .u8 bs)) ∧ Hid (Below w.heap.size w wr)) (fun _ _ i _ => bs.length - (RowKit.intOf i).toNat)
  case atStart => exact ⟨0, r0, by omega, rfl, rfl, ⟨hr0, HR.out⟩, B0, V0, K0⟩
  case round =>
    obtain ⟨k, x, hk, rfl, rfl, hx, hB, hV, hK⟩ := hrel
    clear B0 K0 V0 HR
    have hmx := hmax
    unfold maxLen at hmx
    by_cases hlt : k < bs.length
    · have d8 : decide ((k : Int) < (bs.length : Int)) = true := decide_eq_true (by omega)
      obtain ⟨b, off, rfl, hc⟩ := hV.out.cells (by omega)
      have hc2 := hc k hlt
      have HX := Lib.hid (regC_step p x k R bs hlt hx.out.2)
      have hy := HB.out k
      have hxx := hx.out.1
      generalize bs.getD k 0 = y at hc2 HX hy
      have HE := Lib.hid (by_eq p x y hy)
      have HL := Lib.hid (byB_lt p x y hp hxx hy)
      obtain ⟨j, hj⟩ : ∃ j, j = (x ^^^ y) % 256 := ⟨_, rfl⟩
      have hj2 : j < 256 := by omega
      have w1 : IntKind.u8.wrap (x : Int) = ((x % 256 : Nat) : Int) := by rw [IntKind.wrap_u8]; omega
      have x1 : bits .xor .u8 ((x % 256 : Nat) : Int) (y : Int) = (j : Int) := by rw [xor_u8 _ _ (by omega) hy, xor_mod256 _ _ hy, hj]
      have hc3 := hB.out.cell j
      rw [tcs_at _ j (by rw [tabL_len]; exact hj2), tabL_at _ _ hj2] at hc3
      have X2 := Lib.hid (xor_u32 (x / 256) (tabC p j) (by omega) (tabC_lt p j hp (by omega)))
      have hby : x / 256 ^^^ tabC p j = byT p x y := by unfold byT; rw [hj]
      have HY := Lib.hid hby
      have hd : (x : Int) / 256 = ((x / 256 : Nat) : Int) := by omega
      have HD2 := Lib.hid hd
      have W1 := Lib.hid w1
      have X1 := Lib.hid x1
      clear hby hd hc hj HB w1 x1
      obtain ⟨xm, hxm⟩ : ∃ xm, xm = x % 256 := ⟨_, rfl⟩
      rw [← hxm] at W1 X1
      have w1 := W1.out
      have x1 := X1.out
      clear hxm
      go_wp2_with fail
      go_roundw
      case rel => exact ⟨k + 1, byB p x y, Nat.succ_le_of_lt hlt, by go_num, by rw [← HE.out, ← HY.out, HD2.out, X2.out], ⟨HL.out, HX.out⟩, hB, hV, hK⟩
      case measure => simp [RowKit.intOf]; omega
    · obtain rfl : k = bs.length := by omega
      have d16 : decide (((bs.length : Nat) : Int) < (bs.length : Int)) = false := decide_eq_false (by omega)
      have hq := hx.out.2
      rw [List.drop_length] at hq
      have HQ : x = R := hq
      subst HQ
      clear hq
      go_wp2
      go_ret
      exact ⟨by rw [HD.out]; rfl, hK.out⟩
end Go.Proofs.Ytblkpnjmmdbgnaa
namespace Go.Proofs.Ytblkpnjmmdbgnaa
open Go.RowKit Go.Lib
set_option maxRecDepth 100000 in
theorem xor_ones (s : Nat) (h : s < 4294967296) : bits .xor .u32 (s : Int) 4294967295 = ((s ^^^ ones : Nat) : Int) := u32_xor_nat s 4294967295 h (by decide)
set_option maxRecDepth 100000 in
set_option maxHeartbeats 400000 in
theorem crc_any (p s : Nat) (hp : p < 4294967296) (hs : s < 4294967296) (v : Value) (bs : List Nat) (hb : ∀ c ∈ bs, c < 256) (w : World) (hv : Rd w v (nus .u8 bs)) :
    Calls Try.prog 45 #[.int .u32 (p : Int), .int .u32 (s : Int), v] w fun e w' => e = .returned (.int .u32 ((crcC p s bs : Nat) : Int)) ∧ w = w' := by
  obtain ⟨a, cap, rfl, hcap, hmax⟩ := rd_shape hv
  have hn := xor_ones s hs
  have hr0 := Nat.xor_lt_two_pow (n := 32) hs (show ones < 2 ^ 32 by decide)
  have hd : regC p (s ^^^ ones) bs ^^^ ones = crcC p s bs := rfl
  have HD := Lib.hid hd
  obtain ⟨R, hR⟩ : ∃ R, R = regC p (s ^^^ ones) bs := ⟨_, rfl⟩
  rw [← hR] at HD
  obtain ⟨r0, hr⟩ : ∃ r, r = s ^^^ ones := ⟨_, rfl⟩
  rw [← hr] at hR hr0 hn
  have HR := Lib.hid hR.symm
  have HB := Lib.hid (fun k => getD_lt bs hb k)
  have hR32 : R < 4294967296 := by rw [hR]; exact regC_lt p hp bs r0 hr0 hb
  have hN := xor_ones R hR32
  have V0 := Lib.hid hv
  clear hv hb hR hr hd
  go_enter Try.func45, Try.ntmps45
  go_wp2
  go_loopw [7, 8, 9] (fun r i j wr => ∃ (k x : Nat), k ≤ bs.length ∧ i = .int .i64 (k : Int) ∧ r = .int .u32 (x : Int) ∧ Hid (x < 4294967296 ∧ regC p x (bs.drop k) = R) ∧ w = wr) (fun _ i _ _ => bs.length - (RowKit.intOf i).toNat)
  case atStart => exact ⟨0, r0, by omega, rfl, rfl, ⟨hr0, HR.out⟩, rfl⟩
  case round =>
    obtain ⟨k, x, hk, rfl, rfl, hx, rfl⟩ := hrel
    clear HR
    have hmx := hmax
    unfold maxLen at hmx
    by_cases hlt : k < bs.length
    · have d8 : decide ((k : Int) < (bs.length : Int)) = true := decide_eq_true (by omega)
      obtain ⟨b, off, rfl, hc⟩ := V0.out.cells (by omega)
      have hc2 := hc k hlt
      have HX := Lib.hid (regC_step p x k R bs hlt hx.out.2)
      have hy := HB.out k
      have hxx := hx.out.1
      generalize bs.getD k 0 = y at hc2 HX hy
      have HL := Lib.hid (byB_lt p x y hp hxx hy)
      obtain ⟨z, hz⟩ : ∃ z, z = x ^^^ y := ⟨_, rfl⟩
      have hz32 : z < 4294967296 := by rw [hz]; exact Nat.xor_lt_two_pow (n := 32) hxx (by omega)
      have hz0 : stpN p (8 - 0) z = byB p x y := by rw [hz]; rfl
      have w1 : IntKind.u32.wrap (y : Int) = (y : Int) := by rw [IntKind.wrap_u32]; omega
      have x1 : bits .xor .u32 (x : Int) (y : Int) = (z : Int) := by rw [xor_u32 _ _ hxx (by omega), hz]
      have HZ := Lib.hid hz0
      obtain ⟨B, hB⟩ : ∃ B, B = byB p x y := ⟨_, rfl⟩
      rw [← hB] at HZ HX HL
      clear hc HB hz0 hz hB
      go_wp2
      go_loopw [7, 9] (fun r j wr => ∃ (l q : Nat), l ≤ 8 ∧ j = .int .i64 (l : Int) ∧ r = .int .u32 (q : Int) ∧ Hid (q < 4294967296 ∧ stpN p (8 - l) q = B) ∧ w = wr) (fun _ j _ => 8 - (RowKit.intOf j).toNat)
      case atStart => exact ⟨0, z, by omega, rfl, rfl, ⟨hz32, HZ.out⟩, rfl⟩
      case round =>
        obtain ⟨l, q, hl, rfl, rfl, hq, rfl⟩ := hrel
        clear hc2 hx x1 w1
        by_cases hll : l < 8
        · have d9 : decide ((l : Int) < 8) = true := decide_eq_true (by omega)
          have A1 := Lib.hid (and1_u32 q hq.out.1)
          have X1 := Lib.hid (xor_u32 (q / 2) p (by have := hq.out.1; omega) hp)
          have hq2 := Lib.hid (stp_lt p q hp hq.out.1)
          have hN2 := Lib.hid (stpN_next p l q _ hll hq.out.2)
          have hd : (q : Int) / 2 = ((q / 2 : Nat) : Int) := by omega
          have HD2 := Lib.hid hd
          clear hd
          have hm : q % 2 = 0 ∨ q % 2 = 1 := by omega
          rcases hm with hm | hm
          · have hS := Lib.hid (stp_not p q hm)
            have a1 : bits .and .u32 (q : Int) 1 = 0 := by rw [A1.out, hm]; rfl
            go_wp2
            go_roundw
            case rel => exact ⟨l + 1, stp p q, Nat.succ_le_of_lt hll, by go_num, by rw [hS.out, HD2.out], ⟨hq2.out, hN2.out⟩, trivial⟩
            case measure => simp [RowKit.intOf]; omega
          · have hS := Lib.hid (stp_odd p q hm)
            have a1 : bits .and .u32 (q : Int) 1 = 1 := by rw [A1.out, hm]; rfl
            go_wp2
            go_roundw
            case rel => exact ⟨l + 1, stp p q, Nat.succ_le_of_lt hll, by go_num, by rw [hS.out, HD2.out, X1.out], ⟨hq2.out, hN2.out⟩, trivial⟩
            case measure => simp [RowKit.intOf]; omega
        · obtain rfl : l = 8 := by omega
          have d16 : decide (((8 : Nat) : Int) < 8) = false := by decide
          have HQ : q = B := hq.out.2
          subst HQ
          go_wp2
          go_roundw
          case rel => exact ⟨k + 1, q, Nat.succ_le_of_lt hlt, by go_num, rfl, ⟨HL.out, HX.out⟩, trivial⟩
          case measure => simp [RowKit.intOf]; omega
    · obtain rfl : k = bs.length := by omega
      have d16 : decide (((bs.length : Nat) : Int) < (bs.length : Int)) = false := decide_eq_false (by omega)
      have hq := hx.out.2
      rw [List.drop_length] at hq
      have HQ : x = R := hq
      subst HQ
      clear hq
      go_wp2
      go_ret
      exact ⟨by rw [HD.out]; rfl, rfl⟩
end Go.Proofs.Ytblkpnjmmdbgnaa
namespace Go.Proofs.Ytblkpnjmmdbgnaa
open Go.RowKit Go.Lib
set_option maxRecDepth 100000 in
set_option maxHeartbeats 400000 in
theorem known_any (w : World) :
    Calls Try.prog 33 #[] w fun e w' => e = .returned (.slice (some ⟨w.heap.size, 0, none⟩) 4 4) ∧ Blk w' w.heap.size 25 (tcs knownC) ∧ Below w.heap.size w w' := by
  have B := Lib.hid (Blk.new w 25 (tcs knownC))
  have K := Lib.hid ((Below.refl w.heap.size w).alloc (Nat.le_refl _) (.cells (tcs knownC) 25))
  go_enter Try.func33, Try.ntmps33
  go_wp2
  go_ret
  exact ⟨rfl, B.out, K.out⟩
set_option maxRecDepth 100000 in
set_option maxHeartbeats 400000 in
theorem rknown_any (n : Int) (w : World) :
    Calls Try.prog 46 #[.int .i64 n] w fun e w' => e = .returned (.int .u32 ((knownC.getD (n % 4).toNat 0 : Nat) : Int)) ∧ Below w.heap.size w w' := by
  have B := Lib.hid (Blk.new w 25 (tcs knownC))
  have K := Lib.hid ((Below.refl w.heap.size w).alloc (Nat.le_refl _) (.cells (tcs knownC) 25))
  have a1 := Int.lt_tmod_of_pos n (show (0 : Int) < 4 by decide)
  have a2 := Int.tmod_lt_of_pos n (show (0 : Int) < 4 by decide)
  have hm := Lib.hid (round_math n 4 (by decide))
  go_enter Try.func46, Try.ntmps46
  have hl : [Value.int IntKind.u32 3988292384, Value.int IntKind.u32 2197175160, Value.int IntKind.u32 3945912366, Value.int IntKind.u32 3582100097][(n.tmod 4 % 4).toNat]? = some (.int .u32 ((knownC.getD (n % 4).toNat 0 : Nat) : Int)) := by
    have e : n.tmod 4 % 4 = n % 4 := by rw [← hm.out, Int.add_emod_right]
    rw [e]
    have h : n % 4 = 0 ∨ n % 4 = 1 ∨ n % 4 = 2 ∨ n % 4 = 3 := by omega
    rcases h with h | h | h | h <;> rw [h] <;> rfl
  go_wp2
  go_ret
  exact ⟨rfl, K.out⟩
end Go.Proofs.Ytblkpnjmmdbgnaa
namespace Go.Proofs.Ytblkpnjmmdbgnaa
open Go.RowKit Go.Lib
theorem i70 : (Try.prog.info? 70).map (·.size) = some 256 := by kernel_rfl
theorem bK_ne {k : Fl} (h : vK k = true) : 0 < (bK k).length := by rw [bK_yes h]; unfold bR; simp
theorem knT_info (i : Nat) : (Try.prog.info? 70).map (·.size) = some (tcs (knT i)).toList.length := i70.trans (congrArg some (by rw [Array.length_toList, tcs_size, knT_len]))
set_option maxRecDepth 100000 in
set_option maxHeartbeats 4000000 in
theorem row_nil (k : Fl) (hk : k.Fit)  (w : World) : Calls Try.prog 35 #[.pointer none, .agg k.cs] w fun e w' => e = .returned (.slice none 0 0) ∧ Below w.heap.size w w' := by
  have K := Lib.hid (Below.refl w.heap.size w)
  obtain ⟨a0, a1, a18, a35, a36⟩ := fl_get k hk
  have G0 := Lib.hid a0
  have G1 := Lib.hid a1
  have G18 := Lib.hid a18
  have G35 := Lib.hid a35
  have G36 := Lib.hid a36
  have KP1 := Lib.hid (fl_src k)
  have KP2 := Lib.hid (fl_dst k hk)
  have IS := Lib.hid (fl_is k hk)
  have ID := Lib.hid (fl_id k hk)
  have IK := Lib.hid (fl_ik k hk)
  clear a0 a1 a18 a35 a36
  generalize k.cs = kc at *
  generalize cellsA k.sv k.S = S at *
  generalize cellsA k.dv k.D = D at *
  generalize k.p = p at *
  generalize k.sv = sv at *
  generalize k.dv = dv at *
  generalize k.sp = sp at *
  generalize k.dp = dp at *
  clear hk
  go_enter Try.func35, Try.ntmps35
  have hal := (Below.refl w.heap.size w).alloc (Nat.le_refl _) (.cells kc 31)
  replace K := Lib.hid (K.out.trans (hal.mono K.out.size))
  have N := Lib.hid (Blk.new w 31 kc)
  clear hal
  go_wp2
  go_ret
  exact ⟨rfl, K.out⟩
set_option maxRecDepth 100000 in
set_option maxHeartbeats 4000000 in
theorem row_no (k : Fl) (hk : k.Fit) (hv : vK k = false) (g : Nat) (w : World) : Calls Try.prog 35 #[.pointer (some ⟨g, 0, none⟩), .agg k.cs] w fun e w' => e = .returned (.slice none 0 0) ∧ Below w.heap.size w w' := by
  have K := Lib.hid (Below.refl w.heap.size w)
  have CB := Lib.hid (fun W => kbytes_no k hk hv W)
  clear hv
  obtain ⟨a0, a1, a18, a35, a36⟩ := fl_get k hk
  have G0 := Lib.hid a0
  have G1 := Lib.hid a1
  have G18 := Lib.hid a18
  have G35 := Lib.hid a35
  have G36 := Lib.hid a36
  have KP1 := Lib.hid (fl_src k)
  have KP2 := Lib.hid (fl_dst k hk)
  have IS := Lib.hid (fl_is k hk)
  have ID := Lib.hid (fl_id k hk)
  have IK := Lib.hid (fl_ik k hk)
  clear a0 a1 a18 a35 a36
  generalize k.cs = kc at *
  generalize cellsA k.sv k.S = S at *
  generalize cellsA k.dv k.D = D at *
  generalize k.p = p at *
  generalize k.sv = sv at *
  generalize k.dv = dv at *
  generalize k.sp = sp at *
  generalize k.dp = dp at *
  clear hk
  go_enter Try.func35, Try.ntmps35
  have hal := (Below.refl w.heap.size w).alloc (Nat.le_refl _) (.cells kc 31)
  replace K := Lib.hid (K.out.trans (hal.mono K.out.size))
  have N := Lib.hid (Blk.new w 31 kc)
  clear hal
  have L1 : (loadVar 31 ⟨w.heap.size, 0, none⟩).run Try.prog (w.alloc (.cells kc 31)) = .ok (.agg kc) (w.alloc (.cells kc 31)) := run_blk_load (P := Try.prog) 31 (w.heap.size) _ N.out Try.underlying31 rfl IK.out
  replace L1 := Lib.hid L1
  go_wp2_with (((with_reducible refine wpList_load_want (op := ⟨some 7, .load 31 (.tmp 3), _, _, _, _⟩) ?wg1 31 (.tmp 3) ?wo1 ⟨w.heap.size, 0, none⟩ ?wx1 (.agg kc) L1.out ?_); (case wg1 => rfl); (case wo1 => rfl); (case wx1 => rfl)))
  clear L1
  have hzV1 : Hid ((w.alloc (.cells kc 31)).heap.size = w.heap.size + 1) := by show _ = _; simp only [World.size_alloc]
  generalize (w.alloc (.cells kc 31)) = V1 at *
  refine (CB.out V1).mono ?_
  rintro e V2 ⟨rfl, hy⟩
  replace K := Lib.hid (K.out.trans (hy.mono K.out.size))
  replace N := Lib.hid (N.out.below hy N.out.lt)
  clear hy
  go_wp2
  go_ret
  exact ⟨rfl, K.out⟩
set_option maxRecDepth 100000 in
set_option maxHeartbeats 4000000 in
theorem row_yes (k : Fl) (hk : k.Fit) (hv : vK k = true) (g : Nat) (w : World) : Calls Try.prog 35 #[.pointer (some ⟨g, 0, none⟩), .agg k.cs] w fun e w' => ∃ b o c, e = .returned (.slice (some ⟨b, o, none⟩) (bK k).length c) ∧ Rd w' (.slice (some ⟨b, o, none⟩) (bK k).length c) (nus .u8 (bK k)) ∧ Below w.heap.size w w' := by
  have K := Lib.hid (Below.refl w.heap.size w)
  have CB := Lib.hid (fun W => kbytes_yes k hk hv W)
  have HNE := Lib.hid (bK_ne hv)
  clear hv
  obtain ⟨a0, a1, a18, a35, a36⟩ := fl_get k hk
  have G0 := Lib.hid a0
  have G1 := Lib.hid a1
  have G18 := Lib.hid a18
  have G35 := Lib.hid a35
  have G36 := Lib.hid a36
  have KP1 := Lib.hid (fl_src k)
  have KP2 := Lib.hid (fl_dst k hk)
  have IS := Lib.hid (fl_is k hk)
  have ID := Lib.hid (fl_id k hk)
  have IK := Lib.hid (fl_ik k hk)
  clear a0 a1 a18 a35 a36
  generalize k.cs = kc at *
  generalize cellsA k.sv k.S = S at *
  generalize cellsA k.dv k.D = D at *
  generalize k.p = p at *
  generalize k.sv = sv at *
  generalize k.dv = dv at *
  generalize k.sp = sp at *
  generalize k.dp = dp at *
  clear hk
  go_enter Try.func35, Try.ntmps35
  have hal := (Below.refl w.heap.size w).alloc (Nat.le_refl _) (.cells kc 31)
  replace K := Lib.hid (K.out.trans (hal.mono K.out.size))
  have N := Lib.hid (Blk.new w 31 kc)
  clear hal
  have L2 : (loadVar 31 ⟨w.heap.size, 0, none⟩).run Try.prog (w.alloc (.cells kc 31)) = .ok (.agg kc) (w.alloc (.cells kc 31)) := run_blk_load (P := Try.prog) 31 (w.heap.size) _ N.out Try.underlying31 rfl IK.out
  replace L2 := Lib.hid L2
  go_wp2_with (((with_reducible refine wpList_load_want (op := ⟨some 7, .load 31 (.tmp 3), _, _, _, _⟩) ?wg2 31 (.tmp 3) ?wo2 ⟨w.heap.size, 0, none⟩ ?wx2 (.agg kc) L2.out ?_); (case wg2 => rfl); (case wo2 => rfl); (case wx2 => rfl)))
  clear L2
  have hzV1 : Hid ((w.alloc (.cells kc 31)).heap.size = w.heap.size + 1) := by show _ = _; simp only [World.size_alloc]
  generalize (w.alloc (.cells kc 31)) = V1 at *
  refine (CB.out V1).mono ?_
  rintro e V2 ⟨x, rfl, hx, hy⟩
  replace K := Lib.hid (K.out.trans (hy.mono K.out.size))
  replace N := Lib.hid (N.out.below hy N.out.lt)
  clear hy
  have X := Lib.hid hx
  clear hx
  go_wp2
  go_ret
  obtain ⟨a, c, rfl, -, -⟩ := rd_shape X.out
  obtain ⟨b, o, rfl, -⟩ := X.out.cells HNE.out
  exact ⟨b, o, c, rfl, X.out, K.out⟩
set_option maxRecDepth 100000 in
set_option maxHeartbeats 4000000 in
theorem hash_any (c : Cf) (hc : c.Fit) (n : Nat) (hn : n ≤ 1000) (g : Nat) (v : Value) (bs : List Nat) (hb : ∀ z ∈ bs, z < 256) (w : World) (hF : Blk w g 73 (famC c)) (hv : Rd w v (nus .u8 bs)) :
    Calls Try.prog 43 #[.pointer (some ⟨g, 0, none⟩), v, .int .i64 (n : Int)] w fun e w' => e = .returned (.int .u32 ((hsB c.sd n bs : Nat) : Int)) ∧ Below w.heap.size w w' := by
  obtain ⟨i, hi⟩ : ∃ i, i = n % 4 := ⟨_, rfl⟩
  have hi4 : i < 4 := by omega
  have K := Lib.hid (Below.refl w.heap.size w)
  have F := Lib.hid hF
  have V := Lib.hid hv
  have hkn := (knownC_hi i hi4).2
  have hsd := hc.sd
  have CO := Lib.hid (fun W h => of_any (knownC.getD i 0) (sdN c.sd n) hkn (sdN_lt _ _) v bs hb W h)
  have hl := crcC_lt (knownC.getD i 0) (sdN c.sd n) bs hkn (sdN_lt _ _) hb
  have CM := Lib.hid (fun W => mix_any _ hl W)
  have HR : hsB c.sd n bs = mixN (crcC (knownC.getD i 0) (sdN c.sd n) bs) := by unfold hsB; rw [hi]
  rw [HR]
  have FP := Lib.hid (fam_part c i hi4)
  have FI := Lib.hid (knT_info i)
  have FG := Lib.hid (fam_get tabs4 c tabs4_len).1
  have hk : tabL (knownC.getD i 0) = knT i := rfl
  rw [hk] at CO
  have tm : (n : Int).tmod 4 = (i : Int) := by rw [Int.tmod_eq_emod_of_nonneg (by omega)]; omega
  obtain ⟨q, hq⟩ : ∃ q, q = 7919 * n := ⟨_, rfl⟩
  have w1 : IntKind.u32.wrap (n : Int) = (n : Int) := by rw [IntKind.wrap_u32]; omega
  have w2 : IntKind.u32.wrap ((n : Int) * 7919) = (q : Int) := by rw [IntKind.wrap_u32]; omega
  have w3 : IntKind.u32.wrap ((c.sd : Int) + (q : Int)) = ((sdN c.sd n : Nat) : Int) := by rw [IntKind.wrap_u32]; unfold sdN; omega
  have i1 : (0 : Int) ≤ (i : Int) := by omega
  have i2 : (i : Int) < 4 := by omega
  generalize mixN (crcC (knownC.getD i 0) (sdN c.sd n) bs) = R at *
  generalize crcC (knownC.getD i 0) (sdN c.sd n) bs = C at *
  generalize sdN c.sd n = sn at *
  generalize knT i = T at *
  change Hid ((famC c)[1024]? = _) at FG
  generalize famC c = fc at *
  generalize c.sd = sd at *
  clear hF hv hc hkn hl HR hk hq hsd hi hb
  go_enter Try.func43, Try.ntmps43
  go_wp2_with fail
  refine wp_region_still_tail 16 (by kernel_rfl) (by kernel_rfl) ?_
  change wpStill _ _ w.drew (fun a' => wpList _ _ _ _ a' w.drew) _ _
  have hy := (Below.refl w.heap.size w).drew
  replace K := Lib.hid (K.out.trans (hy.mono K.out.size))
  replace F := Lib.hid (F.out.below hy F.out.lt)
  replace V := Lib.hid (V.out.below hy)
  clear hy
  generalize w.drew = V1 at *
  have c16 := (F.out.cell 1024).trans FG.out
  simp only [List.take_succ_cons, List.take_zero, List.drop_succ_cons, List.drop_zero]
  still_step
  still_step
  still_step
  still_step
  still_step
  still_step
  refine wpStill_step (fun KK hK => ?_)
  rw [if_pos (by rfl)]
  refine still_load 70 (.tmp 12) rfl ⟨g, i * 256, none⟩ ?h1 (.agg (tcs T)) ?h2 (hK _ ?_)
  case h1 => rfl
  case h2 => have h := run_part_load (P := Try.prog) 70 (256 * i) (tcs T).toList _ F.out FP.out Try.underlying70 rfl FI.out; rwa [Array.toArray_toList, Nat.mul_comm] at h
  clear hK KK
  still_step
  still_step
  still_step
  still_step
  still_step
  still_step
  still_step
  still_step
  still_step
  refine wpStill_nil ?_
  try simp only [Act.put, tS1, tS2, tS3]
  go_wp2_with fail
  refine (CO.out V1 V.out).mono ?_
  rintro e V2 ⟨rfl, hy⟩
  replace K := Lib.hid (K.out.trans (hy.mono K.out.size))
  replace F := Lib.hid (F.out.below hy F.out.lt)
  replace V := Lib.hid (V.out.below hy)
  clear hy
  go_wp2_with fail
  refine (same_below (CM.out V2)).mono ?_
  rintro e V3 ⟨rfl, hy⟩
  replace K := Lib.hid (K.out.trans (hy.mono K.out.size))
  replace F := Lib.hid (F.out.below hy F.out.lt)
  replace V := Lib.hid (V.out.below hy)
  clear hy
  go_wp2
  go_ret
  exact ⟨rfl, K.out⟩
set_option maxRecDepth 100000 in
set_option maxHeartbeats 4000000 in
theorem below_any (c : Cf) (hc : c.Fit) (n : Nat) (hn : n ≤ 1000) (m : Nat) (hm : 0 < m) (hm2 : m < 9223372036854775808) (g : Nat) (v : Value) (bs : List Nat) (hb : ∀ z ∈ bs, z < 256) (w : World) (hF : Blk w g 73 (famC c)) (hv : Rd w v (nus .u8 bs)) :
    Calls Try.prog 36 #[.pointer (some ⟨g, 0, none⟩), v, .int .i64 (n : Int), .int .i64 (m : Int)] w fun e w' => e = .returned (.int .i64 ((hsB c.sd n bs % m : Nat) : Int)) ∧ Below w.heap.size w w' := by
  have K := Lib.hid (Below.refl w.heap.size w)
  have F := Lib.hid hF
  have V := Lib.hid hv
  have CH := Lib.hid (fun W h1 h2 => hash_any c hc n hn g v bs hb W h1 h2)
  have hl := hsB_lt c.sd n bs
  generalize hsB c.sd n bs = H at *
  have w1 : IntKind.u64.wrap (H : Int) = (H : Int) := by rw [IntKind.wrap_u64]; omega
  have w2 : IntKind.u64.wrap (m : Int) = (m : Int) := by rw [IntKind.wrap_u64]; omega
  have hr := Nat.mod_lt H hm
  have h0 : ((m : Int) == 0) = false := by rw [beq_eq_false_iff_ne]; omega
  have h1 : (m : Int) ≠ 0 := by omega
  have tm : (H : Int).tmod (m : Int) = ((H % m : Nat) : Int) := by rw [Int.tmod_eq_emod_of_nonneg (by omega)]; exact (Int.natCast_emod H m).symm
  generalize H % m = r at *
  have w3 : IntKind.u64.wrap (r : Int) = (r : Int) := by rw [IntKind.wrap_u64]; omega
  have w4 : IntKind.i64.wrap (r : Int) = (r : Int) := by rw [IntKind.wrap_i64]; omega
  clear hF hv hc hb hl
  go_enter Try.func36, Try.ntmps36
  go_wp2_with fail
  refine (CH.out w F.out V.out).mono ?_
  rintro e V1 ⟨rfl, hy⟩
  replace K := Lib.hid (K.out.trans (hy.mono K.out.size))
  replace F := Lib.hid (F.out.below hy F.out.lt)
  replace V := Lib.hid (V.out.below hy)
  clear hy
  go_wp2
  go_ret
  exact ⟨rfl, K.out⟩
end Go.Proofs.Ytblkpnjmmdbgnaa
namespace Go.Proofs.Ytblkpnjmmdbgnaa
open Go.RowKit Go.Lib
theorem eqn_nil (W : World) : (binOp .eql 77 (.slice none 0 0) (.slice none 0 0)).run Try.prog W = .ok (.bool true) W := by kernel_rfl
theorem eqn_some (p : Addr) (n c : Nat) (W : World) : (binOp .eql 77 (.slice (some p) n c) (.slice none 0 0)).run Try.prog W = .ok (.bool false) W := by kernel_rfl
theorem ZY : Hid ((#[.int .i64 0, .int .i64 0] : Array Value).size = (#[.int .i64 0, .int .i64 0] : Array Value).size) := rfl
theorem i41 : (Try.prog.info? 41).map (·.size) = some 2 := by kernel_rfl
theorem okC_st {c : Cf} (h : okC c = true) : 1 ≤ c.st ∧ c.st ≤ 4 := by
  unfold okC wi at h
  simp only [Bool.and_eq_true, decide_eq_true_iff] at h
  omega
theorem okC_sz {c : Cf} (h : okC c = true) : 2 ≤ c.sz ∧ c.sz ≤ 1024 := by
  unfold okC pw wi at h
  simp only [Bool.and_eq_true, decide_eq_true_iff] at h
  omega
theorem okC_dg {c : Cf} (h : okC c = true) : 1 ≤ c.dg ∧ c.dg ≤ 16 := by
  unfold okC wi at h
  simp only [Bool.and_eq_true, decide_eq_true_iff] at h
  omega
theorem okC_bl {c : Cf} (h : okC c = true) : 8 ≤ c.bl ∧ c.bl ≤ 65536 := by
  unfold okC pw wi at h
  simp only [Bool.and_eq_true, decide_eq_true_iff] at h
  omega
theorem okC_hs {c : Cf} (h : okC c = true) : 1 ≤ c.hs ∧ c.hs ≤ 4 := by
  unfold okC wi at h
  simp only [Bool.and_eq_true, decide_eq_true_iff] at h
  omega
set_option maxRecDepth 100000 in
set_option maxHeartbeats 4000000 in
theorem place_no (c : Cf) (k : Fl) (hk : k.Fit) (hv : vK k = false) (s : Int) (g : Nat) (w : World) (hF : Blk w g 73 (famC c)) :
    Calls Try.prog 12 #[.pointer (some ⟨g, 0, none⟩), .agg k.cs, .int .i64 s] w fun e w' => e = .returned (.tuple #[.agg #[.int .i64 0, .int .i64 0], .bool false]) ∧ Below w.heap.size w w' := by
  have K := Lib.hid (Below.refl w.heap.size w)
  have F := Lib.hid hF
  have CR := Lib.hid (fun W => row_no k hk hv g W)
  obtain ⟨-, f1, f2, -, -, -⟩ := fam_get tabs4 c tabs4_len
  have FS := Lib.hid f1
  have FZ := Lib.hid f2
  change Hid ((famC c)[1025]? = _) at FS
  change Hid ((famC c)[1026]? = _) at FZ
  obtain ⟨a0, a1, a18, a35, a36⟩ := fl_get k hk
  have G0 := Lib.hid a0
  have G1 := Lib.hid a1
  have G18 := Lib.hid a18
  have G35 := Lib.hid a35
  have G36 := Lib.hid a36
  have KP1 := Lib.hid (fl_src k)
  have KP2 := Lib.hid (fl_dst k hk)
  have IS := Lib.hid (fl_is k hk)
  have ID := Lib.hid (fl_id k hk)
  have IK := Lib.hid (fl_ik k hk)
  clear a0 a1 a18 a35 a36
  generalize k.cs = kc at *
  generalize cellsA k.sv k.S = S at *
  generalize cellsA k.dv k.D = D at *
  generalize k.p = p at *
  generalize k.sv = sv at *
  generalize k.dv = dv at *
  generalize k.sp = sp at *
  generalize k.dp = dp at *
  generalize famC c = fc at *
  generalize c.st = st at *
  generalize c.sz = sz at *
  have ZZ : Hid ((Try.prog.info? 41).map (·.size) = some (#[.int .i64 0, .int .i64 0] : Array Value).size) := i41
  have ZA : Hid ((#[.int .i64 0, .int .i64 0] : Array Value).all (·.oneCell') = true) := by show _ = true; simp [Value.oneCell']
  have hgl : g < w.heap.size := hF.lt
  clear hF hk f1 f2 hv
  go_enter Try.func12, Try.ntmps12
  have hal := (Below.refl w.heap.size w).alloc (Nat.le_refl _) (.cells kc 31)
  replace K := Lib.hid (K.out.trans (hal.mono K.out.size))
  replace F := Lib.hid (F.out.below hal F.out.lt)
  have N := Lib.hid (Blk.new w 31 kc)
  clear hal
  have hal := (Below.refl (w.alloc (.cells kc 31)).heap.size (w.alloc (.cells kc 31))).alloc (Nat.le_refl _) (.cells #[.int .i64 0, .int .i64 0] 41)
  replace K := Lib.hid (K.out.trans (hal.mono K.out.size))
  replace F := Lib.hid (F.out.below hal F.out.lt)
  replace N := Lib.hid (N.out.below hal N.out.lt)
  have Pq := Blk.new (w.alloc (.cells kc 31)) 41 #[.int .i64 0, .int .i64 0]
  simp only [World.size_alloc] at Pq
  have P := Lib.hid Pq
  clear Pq
  clear hal
  have L1 : (loadVar 31 ⟨w.heap.size, 0, none⟩).run Try.prog ((w.alloc (.cells kc 31)).alloc (.cells #[.int .i64 0, .int .i64 0] 41)) = .ok (.agg kc) ((w.alloc (.cells kc 31)).alloc (.cells #[.int .i64 0, .int .i64 0] 41)) := run_blk_load (P := Try.prog) 31 (w.heap.size) _ N.out Try.underlying31 rfl IK.out
  replace L1 := Lib.hid L1
  go_wp2_with (((with_reducible refine wpList_load_want (op := ⟨some 10, .load 31 (.tmp 4), _, _, _, _⟩) ?wg1 31 (.tmp 4) ?wo1 ⟨w.heap.size, 0, none⟩ ?wx1 (.agg kc) L1.out ?_); (case wg1 => rfl); (case wo1 => rfl); (case wx1 => rfl)))
  clear L1
  have hzV1 : Hid (((w.alloc (.cells kc 31)).alloc (.cells #[.int .i64 0, .int .i64 0] 41)).heap.size = w.heap.size + 1 + 1) := by show _ = _; simp only [World.size_alloc]
  generalize ((w.alloc (.cells kc 31)).alloc (.cells #[.int .i64 0, .int .i64 0] 41)) = V1 at *
  refine (CR.out V1).mono ?_
  rintro e V2 ⟨rfl, hy⟩
  replace K := Lib.hid (K.out.trans (hy.mono K.out.size))
  replace F := Lib.hid (F.out.below hy F.out.lt)
  replace N := Lib.hid (N.out.below hy N.out.lt)
  replace P := Lib.hid (P.out.below hy P.out.lt)
  clear hy
  have hqn := eqn_nil
  go_wp2_with (((with_reducible refine wpList_blk_store (op := ⟨none, .store 41 (.tmp 6) (.tmp 26), _, _, _, _⟩) ?sg2 41 (.tmp 6) (.tmp 26) ?so2 ((w.heap.size + 1)) #[.int .i64 0, .int .i64 0] ?sx2 ?sy2 P.out ZY.out ZZ.out ZA.out ?_); (case sg2 => rfl); (case so2 => rfl); (case sx2 => rfl); (case sy2 => rfl)))
  intro V3 hA hF hB
  replace K := Lib.hid (K.out.trans (hB _ (by omega)))
  replace F := Lib.hid (show Blk _ _ _ _ from (hF _ (by omega)).trans F.out)
  replace N := Lib.hid (show Blk _ _ _ _ from (hF _ (by omega)).trans N.out)
  replace P := Lib.hid hA
  clear hA hF hB
  go_wp2
  have hrun := run_blk_load (P := Try.prog) 41 (w.heap.size + 1) _ P.out Try.underlying41 rfl ZZ.out
  exact bodyPost_ret (results_cell_tmp 6 41 7 (w.heap.size + 1) _ Try.results12 rfl hrun) rfl ⟨rfl, K.out⟩
set_option maxRecDepth 100000 in
set_option maxHeartbeats 4000000 in
theorem place_low (c : Cf) (k : Fl) (hk : k.Fit) (hv : vK k = true) (s : Int) (hs : s < 0) (g : Nat) (w : World) (hF : Blk w g 73 (famC c)) :
    Calls Try.prog 12 #[.pointer (some ⟨g, 0, none⟩), .agg k.cs, .int .i64 s] w fun e w' => e = .returned (.tuple #[.agg #[.int .i64 0, .int .i64 0], .bool false]) ∧ Below w.heap.size w w' := by
  have K := Lib.hid (Below.refl w.heap.size w)
  have F := Lib.hid hF
  have CR := Lib.hid (fun W => row_yes k hk hv g W)
  have HL := Lib.hid (bK_ne hv)
  have d1 : decide (s < 0) = true := decide_eq_true hs
  obtain ⟨-, f1, f2, -, -, -⟩ := fam_get tabs4 c tabs4_len
  have FS := Lib.hid f1
  have FZ := Lib.hid f2
  change Hid ((famC c)[1025]? = _) at FS
  change Hid ((famC c)[1026]? = _) at FZ
  obtain ⟨a0, a1, a18, a35, a36⟩ := fl_get k hk
  have G0 := Lib.hid a0
  have G1 := Lib.hid a1
  have G18 := Lib.hid a18
  have G35 := Lib.hid a35
  have G36 := Lib.hid a36
  have KP1 := Lib.hid (fl_src k)
  have KP2 := Lib.hid (fl_dst k hk)
  have IS := Lib.hid (fl_is k hk)
  have ID := Lib.hid (fl_id k hk)
  have IK := Lib.hid (fl_ik k hk)
  clear a0 a1 a18 a35 a36
  generalize bK k = bs at *
  generalize k.cs = kc at *
  generalize cellsA k.sv k.S = S at *
  generalize cellsA k.dv k.D = D at *
  generalize k.p = p at *
  generalize k.sv = sv at *
  generalize k.dv = dv at *
  generalize k.sp = sp at *
  generalize k.dp = dp at *
  generalize famC c = fc at *
  generalize c.st = st at *
  generalize c.sz = sz at *
  have ZZ : Hid ((Try.prog.info? 41).map (·.size) = some (#[.int .i64 0, .int .i64 0] : Array Value).size) := i41
  have ZA : Hid ((#[.int .i64 0, .int .i64 0] : Array Value).all (·.oneCell') = true) := by show _ = true; simp [Value.oneCell']
  have hgl : g < w.heap.size := hF.lt
  clear hF hk f1 f2 hv hs
  go_enter Try.func12, Try.ntmps12
  have hal := (Below.refl w.heap.size w).alloc (Nat.le_refl _) (.cells kc 31)
  replace K := Lib.hid (K.out.trans (hal.mono K.out.size))
  replace F := Lib.hid (F.out.below hal F.out.lt)
  have N := Lib.hid (Blk.new w 31 kc)
  clear hal
  have hal := (Below.refl (w.alloc (.cells kc 31)).heap.size (w.alloc (.cells kc 31))).alloc (Nat.le_refl _) (.cells #[.int .i64 0, .int .i64 0] 41)
  replace K := Lib.hid (K.out.trans (hal.mono K.out.size))
  replace F := Lib.hid (F.out.below hal F.out.lt)
  replace N := Lib.hid (N.out.below hal N.out.lt)
  have Pq := Blk.new (w.alloc (.cells kc 31)) 41 #[.int .i64 0, .int .i64 0]
  simp only [World.size_alloc] at Pq
  have P := Lib.hid Pq
  clear Pq
  clear hal
  have L3 : (loadVar 31 ⟨w.heap.size, 0, none⟩).run Try.prog ((w.alloc (.cells kc 31)).alloc (.cells #[.int .i64 0, .int .i64 0] 41)) = .ok (.agg kc) ((w.alloc (.cells kc 31)).alloc (.cells #[.int .i64 0, .int .i64 0] 41)) := run_blk_load (P := Try.prog) 31 (w.heap.size) _ N.out Try.underlying31 rfl IK.out
  replace L3 := Lib.hid L3
  go_wp2_with (((with_reducible refine wpList_load_want (op := ⟨some 10, .load 31 (.tmp 4), _, _, _, _⟩) ?wg3 31 (.tmp 4) ?wo3 ⟨w.heap.size, 0, none⟩ ?wx3 (.agg kc) L3.out ?_); (case wg3 => rfl); (case wo3 => rfl); (case wx3 => rfl)))
  clear L3
  have hzV1 : Hid (((w.alloc (.cells kc 31)).alloc (.cells #[.int .i64 0, .int .i64 0] 41)).heap.size = w.heap.size + 1 + 1) := by show _ = _; simp only [World.size_alloc]
  generalize ((w.alloc (.cells kc 31)).alloc (.cells #[.int .i64 0, .int .i64 0] 41)) = V1 at *
  refine (CR.out V1).mono ?_
  rintro e V2 ⟨b, o, cp, rfl, hx, hy⟩
  replace K := Lib.hid (K.out.trans (hy.mono K.out.size))
  replace F := Lib.hid (F.out.below hy F.out.lt)
  replace N := Lib.hid (N.out.below hy N.out.lt)
  replace P := Lib.hid (P.out.below hy P.out.lt)
  have X := Lib.hid (hx)
  clear hx
  clear hy
  have hqn := eqn_some
  have HQ := HL.out
  go_wp2_with (((with_reducible refine wpList_blk_store (op := ⟨none, .store 41 (.tmp 6) (.tmp 26), _, _, _, _⟩) ?sg4 41 (.tmp 6) (.tmp 26) ?so4 ((w.heap.size + 1)) #[.int .i64 0, .int .i64 0] ?sx4 ?sy4 P.out ZY.out ZZ.out ZA.out ?_); (case sg4 => rfl); (case so4 => rfl); (case sx4 => rfl); (case sy4 => rfl)))
  intro V3 hA hF hB
  replace K := Lib.hid (K.out.trans (hB _ (by omega)))
  replace F := Lib.hid (show Blk _ _ _ _ from (hF _ (by omega)).trans F.out)
  replace N := Lib.hid (show Blk _ _ _ _ from (hF _ (by omega)).trans N.out)
  replace P := Lib.hid hA
  clear hA hF hB
  go_wp2
  have hrun := run_blk_load (P := Try.prog) 41 (w.heap.size + 1) _ P.out Try.underlying41 rfl ZZ.out
  exact bodyPost_ret (results_cell_tmp 6 41 7 (w.heap.size + 1) _ Try.results12 rfl hrun) rfl ⟨rfl, K.out⟩
set_option maxRecDepth 100000 in
set_option maxHeartbeats 4000000 in
theorem place_high (c : Cf) (k : Fl) (hk : k.Fit) (hv : vK k = true) (s : Int) (hs : ¬ s < 0 ∧ s ≥ c.st) (g : Nat) (w : World) (hF : Blk w g 73 (famC c)) :
    Calls Try.prog 12 #[.pointer (some ⟨g, 0, none⟩), .agg k.cs, .int .i64 s] w fun e w' => e = .returned (.tuple #[.agg #[.int .i64 0, .int .i64 0], .bool false]) ∧ Below w.heap.size w w' := by
  have K := Lib.hid (Below.refl w.heap.size w)
  have F := Lib.hid hF
  have CR := Lib.hid (fun W => row_yes k hk hv g W)
  have HL := Lib.hid (bK_ne hv)
  have d1 : decide (s < 0) = false := decide_eq_false hs.1
  have d2 : decide (s ≥ c.st) = true := decide_eq_true hs.2
  obtain ⟨-, f1, f2, -, -, -⟩ := fam_get tabs4 c tabs4_len
  have FS := Lib.hid f1
  have FZ := Lib.hid f2
  change Hid ((famC c)[1025]? = _) at FS
  change Hid ((famC c)[1026]? = _) at FZ
  obtain ⟨a0, a1, a18, a35, a36⟩ := fl_get k hk
  have G0 := Lib.hid a0
  have G1 := Lib.hid a1
  have G18 := Lib.hid a18
  have G35 := Lib.hid a35
  have G36 := Lib.hid a36
  have KP1 := Lib.hid (fl_src k)
  have KP2 := Lib.hid (fl_dst k hk)
  have IS := Lib.hid (fl_is k hk)
  have ID := Lib.hid (fl_id k hk)
  have IK := Lib.hid (fl_ik k hk)
  clear a0 a1 a18 a35 a36
  generalize bK k = bs at *
  generalize k.cs = kc at *
  generalize cellsA k.sv k.S = S at *
  generalize cellsA k.dv k.D = D at *
  generalize k.p = p at *
  generalize k.sv = sv at *
  generalize k.dv = dv at *
  generalize k.sp = sp at *
  generalize k.dp = dp at *
  generalize famC c = fc at *
  generalize c.st = st at *
  generalize c.sz = sz at *
  have ZZ : Hid ((Try.prog.info? 41).map (·.size) = some (#[.int .i64 0, .int .i64 0] : Array Value).size) := i41
  have ZA : Hid ((#[.int .i64 0, .int .i64 0] : Array Value).all (·.oneCell') = true) := by show _ = true; simp [Value.oneCell']
  have hgl : g < w.heap.size := hF.lt
  clear hF hk f1 f2 hv hs
  go_enter Try.func12, Try.ntmps12
  have hal := (Below.refl w.heap.size w).alloc (Nat.le_refl _) (.cells kc 31)
  replace K := Lib.hid (K.out.trans (hal.mono K.out.size))
  replace F := Lib.hid (F.out.below hal F.out.lt)
  have N := Lib.hid (Blk.new w 31 kc)
  clear hal
  have hal := (Below.refl (w.alloc (.cells kc 31)).heap.size (w.alloc (.cells kc 31))).alloc (Nat.le_refl _) (.cells #[.int .i64 0, .int .i64 0] 41)
  replace K := Lib.hid (K.out.trans (hal.mono K.out.size))
  replace F := Lib.hid (F.out.below hal F.out.lt)
  replace N := Lib.hid (N.out.below hal N.out.lt)
  have Pq := Blk.new (w.alloc (.cells kc 31)) 41 #[.int .i64 0, .int .i64 0]
  simp only [World.size_alloc] at Pq
  have P := Lib.hid Pq
  clear Pq
  clear hal
  have L5 : (loadVar 31 ⟨w.heap.size, 0, none⟩).run Try.prog ((w.alloc (.cells kc 31)).alloc (.cells #[.int .i64 0, .int .i64 0] 41)) = .ok (.agg kc) ((w.alloc (.cells kc 31)).alloc (.cells #[.int .i64 0, .int .i64 0] 41)) := run_blk_load (P := Try.prog) 31 (w.heap.size) _ N.out Try.underlying31 rfl IK.out
  replace L5 := Lib.hid L5
  go_wp2_with (((with_reducible refine wpList_load_want (op := ⟨some 10, .load 31 (.tmp 4), _, _, _, _⟩) ?wg5 31 (.tmp 4) ?wo5 ⟨w.heap.size, 0, none⟩ ?wx5 (.agg kc) L5.out ?_); (case wg5 => rfl); (case wo5 => rfl); (case wx5 => rfl)))
  clear L5
  have hzV1 : Hid (((w.alloc (.cells kc 31)).alloc (.cells #[.int .i64 0, .int .i64 0] 41)).heap.size = w.heap.size + 1 + 1) := by show _ = _; simp only [World.size_alloc]
  generalize ((w.alloc (.cells kc 31)).alloc (.cells #[.int .i64 0, .int .i64 0] 41)) = V1 at *
  refine (CR.out V1).mono ?_
  rintro e V2 ⟨b, o, cp, rfl, hx, hy⟩
  replace K := Lib.hid (K.out.trans (hy.mono K.out.size))
  replace F := Lib.hid (F.out.below hy F.out.lt)
  replace N := Lib.hid (N.out.below hy N.out.lt)
  replace P := Lib.hid (P.out.below hy P.out.lt)
  have X := Lib.hid (hx)
  clear hx
  clear hy
  have hqn := eqn_some
  have HQ := HL.out
  have L6 := (F.out.cell 1025).trans FS.out
  go_wp2_with (((with_reducible refine wpList_blk_store (op := ⟨none, .store 41 (.tmp 6) (.tmp 26), _, _, _, _⟩) ?sg7 41 (.tmp 6) (.tmp 26) ?so7 ((w.heap.size + 1)) #[.int .i64 0, .int .i64 0] ?sx7 ?sy7 P.out ZY.out ZZ.out ZA.out ?_); (case sg7 => rfl); (case so7 => rfl); (case sx7 => rfl); (case sy7 => rfl)))
  clear L6
  intro V3 hA hF hB
  replace K := Lib.hid (K.out.trans (hB _ (by omega)))
  replace F := Lib.hid (show Blk _ _ _ _ from (hF _ (by omega)).trans F.out)
  replace N := Lib.hid (show Blk _ _ _ _ from (hF _ (by omega)).trans N.out)
  replace P := Lib.hid hA
  clear hA hF hB
  go_wp2
  have hrun := run_blk_load (P := Try.prog) 41 (w.heap.size + 1) _ P.out Try.underlying41 rfl ZZ.out
  exact bodyPost_ret (results_cell_tmp 6 41 7 (w.heap.size + 1) _ Try.results12 rfl hrun) rfl ⟨rfl, K.out⟩
set_option maxRecDepth 100000 in
set_option maxHeartbeats 4000000 in
theorem place_yes (c : Cf) (hc : c.Fit) (hok : okC c = true) (k : Fl) (hk : k.Fit) (hv : vK k = true) (s : Int) (hs : 0 ≤ s ∧ s < c.st) (g : Nat) (w : World) (hF : Blk w g 73 (famC c)) :
    Calls Try.prog 12 #[.pointer (some ⟨g, 0, none⟩), .agg k.cs, .int .i64 s] w fun e w' => e = .returned (.tuple #[.agg #[.int .i64 s, .int .i64 ((plN c k s.toNat : Nat) : Int)], .bool true]) ∧ Below w.heap.size w w' := by
  have K := Lib.hid (Below.refl w.heap.size w)
  have F := Lib.hid hF
  have CR := Lib.hid (fun W => row_yes k hk hv g W)
  have HL := Lib.hid (bK_ne hv)
  have d1 : decide (s < 0) = false := decide_eq_false (by omega)
  have d2 : decide (s ≥ c.st) = false := decide_eq_false (by omega)
  obtain ⟨b1, b2⟩ := okC_st hok
  obtain ⟨b3, b4⟩ := okC_sz hok
  obtain ⟨n, rfl⟩ : ∃ n : Nat, s = (n : Int) := ⟨s.toNat, by omega⟩
  obtain ⟨m, hm⟩ : ∃ m : Nat, c.sz = (m : Int) := ⟨c.sz.toNat, by omega⟩
  have hp : plN c k (Int.toNat (n : Int)) = hsB c.sd n (bK k) % m := by unfold plN hsh; rw [hm, Int.toNat_natCast, Int.toNat_natCast]
  rw [hp]
  have CB := Lib.hid (fun v W h1 h2 => below_any c hc n (by omega) m (by omega) (by omega) g v (bK k) (bK_lt k hk) W h1 h2)
  generalize hsB c.sd n (bK k) % m = r at *
  obtain ⟨-, f1, f2, -, -, -⟩ := fam_get tabs4 c tabs4_len
  have FS := Lib.hid f1
  have FZ := Lib.hid f2
  change Hid ((famC c)[1025]? = _) at FS
  change Hid ((famC c)[1026]? = _) at FZ
  rw [hm] at FZ
  obtain ⟨a0, a1, a18, a35, a36⟩ := fl_get k hk
  have G0 := Lib.hid a0
  have G1 := Lib.hid a1
  have G18 := Lib.hid a18
  have G35 := Lib.hid a35
  have G36 := Lib.hid a36
  have KP1 := Lib.hid (fl_src k)
  have KP2 := Lib.hid (fl_dst k hk)
  have IS := Lib.hid (fl_is k hk)
  have ID := Lib.hid (fl_id k hk)
  have IK := Lib.hid (fl_ik k hk)
  clear a0 a1 a18 a35 a36
  generalize bK k = bs at *
  generalize k.cs = kc at *
  generalize cellsA k.sv k.S = S at *
  generalize cellsA k.dv k.D = D at *
  generalize k.p = p at *
  generalize k.sv = sv at *
  generalize k.dv = dv at *
  generalize k.sp = sp at *
  generalize k.dp = dp at *
  generalize famC c = fc at *
  generalize c.st = st at *
  generalize c.sz = sz at *
  have ZZ : Hid ((Try.prog.info? 41).map (·.size) = some (#[.int .i64 0, .int .i64 0] : Array Value).size) := i41
  have ZA : Hid ((#[.int .i64 0, .int .i64 0] : Array Value).all (·.oneCell') = true) := by show _ = true; simp [Value.oneCell']
  have RZ : Hid ((Try.prog.info? 41).map (·.size) = some (#[.int .i64 (n : Int), .int .i64 (r : Int)] : Array Value).size) := i41
  have RA : Hid ((#[.int .i64 (n : Int), .int .i64 (r : Int)] : Array Value).all (·.oneCell') = true) := by show _ = true; simp [Value.oneCell']
  have RY : Hid ((#[.int .i64 (n : Int), .int .i64 (r : Int)] : Array Value).size = (#[.int .i64 0, .int .i64 0] : Array Value).size) := rfl
  have hgl : g < w.heap.size := hF.lt
  clear hF hk f1 f2  hc hok hv b1 b2 b3 b4 hm hp hs
  go_enter Try.func12, Try.ntmps12
  have hal := (Below.refl w.heap.size w).alloc (Nat.le_refl _) (.cells kc 31)
  replace K := Lib.hid (K.out.trans (hal.mono K.out.size))
  replace F := Lib.hid (F.out.below hal F.out.lt)
  have N := Lib.hid (Blk.new w 31 kc)
  clear hal
  have hal := (Below.refl (w.alloc (.cells kc 31)).heap.size (w.alloc (.cells kc 31))).alloc (Nat.le_refl _) (.cells #[.int .i64 0, .int .i64 0] 41)
  replace K := Lib.hid (K.out.trans (hal.mono K.out.size))
  replace F := Lib.hid (F.out.below hal F.out.lt)
  replace N := Lib.hid (N.out.below hal N.out.lt)
  have Pq := Blk.new (w.alloc (.cells kc 31)) 41 #[.int .i64 0, .int .i64 0]
  simp only [World.size_alloc] at Pq
  have P := Lib.hid Pq
  clear Pq
  clear hal
  have L8 : (loadVar 31 ⟨w.heap.size, 0, none⟩).run Try.prog ((w.alloc (.cells kc 31)).alloc (.cells #[.int .i64 0, .int .i64 0] 41)) = .ok (.agg kc) ((w.alloc (.cells kc 31)).alloc (.cells #[.int .i64 0, .int .i64 0] 41)) := run_blk_load (P := Try.prog) 31 (w.heap.size) _ N.out Try.underlying31 rfl IK.out
  replace L8 := Lib.hid L8
  go_wp2_with (((with_reducible refine wpList_load_want (op := ⟨some 10, .load 31 (.tmp 4), _, _, _, _⟩) ?wg8 31 (.tmp 4) ?wo8 ⟨w.heap.size, 0, none⟩ ?wx8 (.agg kc) L8.out ?_); (case wg8 => rfl); (case wo8 => rfl); (case wx8 => rfl)))
  clear L8
  have hzV1 : Hid (((w.alloc (.cells kc 31)).alloc (.cells #[.int .i64 0, .int .i64 0] 41)).heap.size = w.heap.size + 1 + 1) := by show _ = _; simp only [World.size_alloc]
  generalize ((w.alloc (.cells kc 31)).alloc (.cells #[.int .i64 0, .int .i64 0] 41)) = V1 at *
  refine (CR.out V1).mono ?_
  rintro e V2 ⟨b, o, cp, rfl, hx, hy⟩
  replace K := Lib.hid (K.out.trans (hy.mono K.out.size))
  replace F := Lib.hid (F.out.below hy F.out.lt)
  replace N := Lib.hid (N.out.below hy N.out.lt)
  replace P := Lib.hid (P.out.below hy P.out.lt)
  have X := Lib.hid (hx)
  clear hx
  clear hy
  have hqn := eqn_some
  have HQ := HL.out
  have L9 := (F.out.cell 1025).trans FS.out
  have L10 := (F.out.cell 1026).trans FZ.out
  go_wp2_with fail
  clear L9 L10
  refine (CB.out _ V2 F.out X.out).mono ?_
  rintro e V3 ⟨rfl, hy⟩
  replace K := Lib.hid (K.out.trans (hy.mono K.out.size))
  replace F := Lib.hid (F.out.below hy F.out.lt)
  replace N := Lib.hid (N.out.below hy N.out.lt)
  replace P := Lib.hid (P.out.below hy P.out.lt)
  replace X := Lib.hid (X.out.below hy)
  clear hy
  go_wp2_with (((with_reducible refine wpList_blk_store (op := ⟨none, .store 41 (.tmp 6) (.tmp 36), _, _, _, _⟩) ?sg11 41 (.tmp 6) (.tmp 36) ?so11 ((w.heap.size + 1)) #[.int .i64 (n : Int), .int .i64 (r : Int)] ?sx11 ?sy11 P.out RY.out RZ.out RA.out ?_); (case sg11 => rfl); (case so11 => rfl); (case sx11 => rfl); (case sy11 => rfl)))
  intro V4 hA hF hB
  replace K := Lib.hid (K.out.trans (hB _ (by omega)))
  replace F := Lib.hid (show Blk _ _ _ _ from (hF _ (by omega)).trans F.out)
  replace N := Lib.hid (show Blk _ _ _ _ from (hF _ (by omega)).trans N.out)
  replace P := Lib.hid hA
  clear hA hF hB
  go_wp2
  have hrun := run_blk_load (P := Try.prog) 41 (w.heap.size + 1) _ P.out Try.underlying41 rfl RZ.out
  exact bodyPost_ret (results_cell_tmp 6 41 7 (w.heap.size + 1) _ Try.results12 rfl hrun) rfl ⟨rfl, K.out⟩
set_option maxRecDepth 100000 in
set_option maxHeartbeats 4000000 in
theorem digest_nil (k : Fl) (hk : k.Fit) (w : World) :
    Calls Try.prog 15 #[.pointer none, .agg k.cs] w fun e w' => e = .returned (.int .u16 0) ∧ Below w.heap.size w w' := by
  have K := Lib.hid (Below.refl w.heap.size w)
  have CR := Lib.hid (fun W => row_nil k hk W)
  obtain ⟨a0, a1, a18, a35, a36⟩ := fl_get k hk
  have G0 := Lib.hid a0
  have G1 := Lib.hid a1
  have G18 := Lib.hid a18
  have G35 := Lib.hid a35
  have G36 := Lib.hid a36
  have KP1 := Lib.hid (fl_src k)
  have KP2 := Lib.hid (fl_dst k hk)
  have IS := Lib.hid (fl_is k hk)
  have ID := Lib.hid (fl_id k hk)
  have IK := Lib.hid (fl_ik k hk)
  clear a0 a1 a18 a35 a36
  generalize k.cs = kc at *
  generalize cellsA k.sv k.S = S at *
  generalize cellsA k.dv k.D = D at *
  generalize k.p = p at *
  generalize k.sv = sv at *
  generalize k.dv = dv at *
  generalize k.sp = sp at *
  generalize k.dp = dp at *
  clear hk
  go_enter Try.func15, Try.ntmps15
  have hal := (Below.refl w.heap.size w).alloc (Nat.le_refl _) (.cells kc 31)
  replace K := Lib.hid (K.out.trans (hal.mono K.out.size))
  have N := Lib.hid (Blk.new w 31 kc)
  clear hal
  have L12 : (loadVar 31 ⟨w.heap.size, 0, none⟩).run Try.prog (w.alloc (.cells kc 31)) = .ok (.agg kc) (w.alloc (.cells kc 31)) := run_blk_load (P := Try.prog) 31 (w.heap.size) _ N.out Try.underlying31 rfl IK.out
  replace L12 := Lib.hid L12
  go_wp2_with (((with_reducible refine wpList_load_want (op := ⟨some 7, .load 31 (.tmp 3), _, _, _, _⟩) ?wg12 31 (.tmp 3) ?wo12 ⟨w.heap.size, 0, none⟩ ?wx12 (.agg kc) L12.out ?_); (case wg12 => rfl); (case wo12 => rfl); (case wx12 => rfl)))
  clear L12
  have hzV1 : Hid ((w.alloc (.cells kc 31)).heap.size = w.heap.size + 1) := by show _ = _; simp only [World.size_alloc]
  generalize (w.alloc (.cells kc 31)) = V1 at *
  refine (CR.out V1).mono ?_
  rintro e V2 ⟨rfl, hy⟩
  replace K := Lib.hid (K.out.trans (hy.mono K.out.size))
  replace N := Lib.hid (N.out.below hy N.out.lt)
  clear hy
  have hqn := eqn_nil
  go_wp2
  go_ret
  exact ⟨rfl, K.out⟩
set_option maxRecDepth 100000 in
set_option maxHeartbeats 4000000 in
theorem digest_no (k : Fl) (hk : k.Fit) (hv : vK k = false) (g : Nat) (w : World) :
    Calls Try.prog 15 #[.pointer (some ⟨g, 0, none⟩), .agg k.cs] w fun e w' => e = .returned (.int .u16 0) ∧ Below w.heap.size w w' := by
  have K := Lib.hid (Below.refl w.heap.size w)
  have CR := Lib.hid (fun W => row_no k hk hv g W)
  obtain ⟨a0, a1, a18, a35, a36⟩ := fl_get k hk
  have G0 := Lib.hid a0
  have G1 := Lib.hid a1
  have G18 := Lib.hid a18
  have G35 := Lib.hid a35
  have G36 := Lib.hid a36
  have KP1 := Lib.hid (fl_src k)
  have KP2 := Lib.hid (fl_dst k hk)
  have IS := Lib.hid (fl_is k hk)
  have ID := Lib.hid (fl_id k hk)
  have IK := Lib.hid (fl_ik k hk)
  clear a0 a1 a18 a35 a36
  generalize k.cs = kc at *
  generalize cellsA k.sv k.S = S at *
  generalize cellsA k.dv k.D = D at *
  generalize k.p = p at *
  generalize k.sv = sv at *
  generalize k.dv = dv at *
  generalize k.sp = sp at *
  generalize k.dp = dp at *
  clear hk hv
  go_enter Try.func15, Try.ntmps15
  have hal := (Below.refl w.heap.size w).alloc (Nat.le_refl _) (.cells kc 31)
  replace K := Lib.hid (K.out.trans (hal.mono K.out.size))
  have N := Lib.hid (Blk.new w 31 kc)
  clear hal
  have L13 : (loadVar 31 ⟨w.heap.size, 0, none⟩).run Try.prog (w.alloc (.cells kc 31)) = .ok (.agg kc) (w.alloc (.cells kc 31)) := run_blk_load (P := Try.prog) 31 (w.heap.size) _ N.out Try.underlying31 rfl IK.out
  replace L13 := Lib.hid L13
  go_wp2_with (((with_reducible refine wpList_load_want (op := ⟨some 7, .load 31 (.tmp 3), _, _, _, _⟩) ?wg13 31 (.tmp 3) ?wo13 ⟨w.heap.size, 0, none⟩ ?wx13 (.agg kc) L13.out ?_); (case wg13 => rfl); (case wo13 => rfl); (case wx13 => rfl)))
  clear L13
  have hzV1 : Hid ((w.alloc (.cells kc 31)).heap.size = w.heap.size + 1) := by show _ = _; simp only [World.size_alloc]
  generalize (w.alloc (.cells kc 31)) = V1 at *
  refine (CR.out V1).mono ?_
  rintro e V2 ⟨rfl, hy⟩
  replace K := Lib.hid (K.out.trans (hy.mono K.out.size))
  replace N := Lib.hid (N.out.below hy N.out.lt)
  clear hy
  have hqn := eqn_nil
  go_wp2
  go_ret
  exact ⟨rfl, K.out⟩
theorem pow16 (d : Nat) (h : d ≤ 16) : 0 < 2 ^ d ∧ 2 ^ d ≤ 65536 := by
  have : d < 17 := by omega
  have q : ∀ d : Fin 17, 0 < 2 ^ d.1 ∧ 2 ^ d.1 ≤ 65536 := by decide
  exact q ⟨d, this⟩
theorem wrap_pow16 (d : Nat) (h : d ≤ 16) : wrap64 (2 ^ min d 64) = ((2 ^ d : Nat) : Int) := by
  have hp := (pow16 d h).2
  have e : (2 : Int) ^ d = ((2 ^ d : Nat) : Int) := by simp
  rw [Nat.min_eq_left (by omega), e]
  generalize 2 ^ d = p at *
  unfold wrap64; omega
set_option maxRecDepth 100000 in
set_option maxHeartbeats 4000000 in
theorem digest_yes (c : Cf) (hc : c.Fit) (hok : okC c = true) (k : Fl) (hk : k.Fit) (hv : vK k = true) (g : Nat) (w : World) (hF : Blk w g 73 (famC c)) :
    Calls Try.prog 15 #[.pointer (some ⟨g, 0, none⟩), .agg k.cs] w fun e w' => e = .returned (.int .u16 ((dgN c k : Nat) : Int)) ∧ Below w.heap.size w w' := by
  have K := Lib.hid (Below.refl w.heap.size w)
  have F := Lib.hid hF
  have CR := Lib.hid (fun W => row_yes k hk hv g W)
  have HL := Lib.hid (bK_ne hv)
  obtain ⟨b1, b2⟩ := okC_dg hok
  obtain ⟨d, hd⟩ : ∃ d : Nat, c.dg = (d : Int) := ⟨c.dg.toNat, by omega⟩
  have hd16 : d ≤ 16 := by omega
  obtain ⟨p1, p2⟩ := pow16 d hd16
  have hw := wrap_pow16 d hd16
  have hr : dgN c k = hsB c.sd 8 (bK k) % 2 ^ d := by unfold dgN hsh; rw [hv, hd, if_pos rfl, Int.toNat_natCast]
  rw [hr]
  have CB := Lib.hid (fun v W h1 h2 => below_any c hc 8 (by omega) (2 ^ d) p1 (by omega) g v (bK k) (bK_lt k hk) W h1 h2)
  rw [show ((8 : Nat) : Int) = 8 from rfl] at CB
  have hm := Nat.mod_lt (hsB c.sd 8 (bK k)) p1
  generalize hsB c.sd 8 (bK k) % 2 ^ d = r at *
  generalize (2 : Nat) ^ d = P at *
  have w1 : IntKind.u16.wrap (r : Int) = (r : Int) := by rw [IntKind.wrap_u16]; omega
  obtain ⟨-, -, -, f3, -, -⟩ := fam_get tabs4 c tabs4_len
  have FD := Lib.hid f3
  change Hid ((famC c)[1027]? = _) at FD
  rw [hd] at FD
  have dn : decide ((d : Int) < 0) = false := decide_eq_false (by omega)
  obtain ⟨a0, a1, a18, a35, a36⟩ := fl_get k hk
  have G0 := Lib.hid a0
  have G1 := Lib.hid a1
  have G18 := Lib.hid a18
  have G35 := Lib.hid a35
  have G36 := Lib.hid a36
  have KP1 := Lib.hid (fl_src k)
  have KP2 := Lib.hid (fl_dst k hk)
  have IS := Lib.hid (fl_is k hk)
  have ID := Lib.hid (fl_id k hk)
  have IK := Lib.hid (fl_ik k hk)
  clear a0 a1 a18 a35 a36
  generalize bK k = bs at *
  generalize k.cs = kc at *
  generalize cellsA k.sv k.S = S at *
  generalize cellsA k.dv k.D = D at *
  generalize k.p = p at *
  generalize k.sv = sv at *
  generalize k.dv = dv at *
  generalize k.sp = sp at *
  generalize k.dp = dp at *
  generalize famC c = fc at *
  generalize c.dg = dg at *
  clear hk hv hF hc hok b1 b2 hd hd16 p1 p2 hr f3 hm
  go_enter Try.func15, Try.ntmps15
  have hal := (Below.refl w.heap.size w).alloc (Nat.le_refl _) (.cells kc 31)
  replace K := Lib.hid (K.out.trans (hal.mono K.out.size))
  replace F := Lib.hid (F.out.below hal F.out.lt)
  have N := Lib.hid (Blk.new w 31 kc)
  clear hal
  have L14 : (loadVar 31 ⟨w.heap.size, 0, none⟩).run Try.prog (w.alloc (.cells kc 31)) = .ok (.agg kc) (w.alloc (.cells kc 31)) := run_blk_load (P := Try.prog) 31 (w.heap.size) _ N.out Try.underlying31 rfl IK.out
  replace L14 := Lib.hid L14
  go_wp2_with (((with_reducible refine wpList_load_want (op := ⟨some 7, .load 31 (.tmp 3), _, _, _, _⟩) ?wg14 31 (.tmp 3) ?wo14 ⟨w.heap.size, 0, none⟩ ?wx14 (.agg kc) L14.out ?_); (case wg14 => rfl); (case wo14 => rfl); (case wx14 => rfl)))
  clear L14
  have hzV1 : Hid ((w.alloc (.cells kc 31)).heap.size = w.heap.size + 1) := by show _ = _; simp only [World.size_alloc]
  generalize (w.alloc (.cells kc 31)) = V1 at *
  refine (CR.out V1).mono ?_
  rintro e V2 ⟨b, o, cp, rfl, hx, hy⟩
  replace K := Lib.hid (K.out.trans (hy.mono K.out.size))
  replace F := Lib.hid (F.out.below hy F.out.lt)
  replace N := Lib.hid (N.out.below hy N.out.lt)
  have X := Lib.hid (hx)
  clear hx
  clear hy
  have hqn := eqn_some
  have HQ := HL.out
  have L15 := (F.out.cell 1027).trans FD.out
  go_wp2_with fail
  clear L15
  refine (CB.out _ V2 F.out X.out).mono ?_
  rintro e V3 ⟨rfl, hy⟩
  replace K := Lib.hid (K.out.trans (hy.mono K.out.size))
  replace F := Lib.hid (F.out.below hy F.out.lt)
  replace N := Lib.hid (N.out.below hy N.out.lt)
  replace X := Lib.hid (X.out.below hy)
  clear hy
  go_wp2
  go_ret
  exact ⟨rfl, K.out⟩
set_option maxRecDepth 100000 in
set_option maxHeartbeats 4000000 in
theorem slot_no (k : Fl) (hk : k.Fit) (hv : vK k = false) (g : Nat) (n : Int) (w : World) :
    Calls Try.prog 20 #[.pointer (some ⟨g, 0, none⟩), .agg k.cs, .int .i64 n] w fun e w' => e = .returned (.int .i64 0) ∧ Below w.heap.size w w' := by
  have K := Lib.hid (Below.refl w.heap.size w)
  have CR := Lib.hid (fun W => row_no k hk hv g W)
  obtain ⟨a0, a1, a18, a35, a36⟩ := fl_get k hk
  have G0 := Lib.hid a0
  have G1 := Lib.hid a1
  have G18 := Lib.hid a18
  have G35 := Lib.hid a35
  have G36 := Lib.hid a36
  have KP1 := Lib.hid (fl_src k)
  have KP2 := Lib.hid (fl_dst k hk)
  have IS := Lib.hid (fl_is k hk)
  have ID := Lib.hid (fl_id k hk)
  have IK := Lib.hid (fl_ik k hk)
  clear a0 a1 a18 a35 a36
  generalize k.cs = kc at *
  generalize cellsA k.sv k.S = S at *
  generalize cellsA k.dv k.D = D at *
  generalize k.p = p at *
  generalize k.sv = sv at *
  generalize k.dv = dv at *
  generalize k.sp = sp at *
  generalize k.dp = dp at *
  clear hk hv
  go_enter Try.func20, Try.ntmps20
  have hal := (Below.refl w.heap.size w).alloc (Nat.le_refl _) (.cells kc 31)
  replace K := Lib.hid (K.out.trans (hal.mono K.out.size))
  have N := Lib.hid (Blk.new w 31 kc)
  clear hal
  have L16 : (loadVar 31 ⟨w.heap.size, 0, none⟩).run Try.prog (w.alloc (.cells kc 31)) = .ok (.agg kc) (w.alloc (.cells kc 31)) := run_blk_load (P := Try.prog) 31 (w.heap.size) _ N.out Try.underlying31 rfl IK.out
  replace L16 := Lib.hid L16
  go_wp2_with (((with_reducible refine wpList_load_want (op := ⟨some 9, .load 31 (.tmp 4), _, _, _, _⟩) ?wg16 31 (.tmp 4) ?wo16 ⟨w.heap.size, 0, none⟩ ?wx16 (.agg kc) L16.out ?_); (case wg16 => rfl); (case wo16 => rfl); (case wx16 => rfl)))
  clear L16
  have hzV1 : Hid ((w.alloc (.cells kc 31)).heap.size = w.heap.size + 1) := by show _ = _; simp only [World.size_alloc]
  generalize (w.alloc (.cells kc 31)) = V1 at *
  refine (CR.out V1).mono ?_
  rintro e V2 ⟨rfl, hy⟩
  replace K := Lib.hid (K.out.trans (hy.mono K.out.size))
  replace N := Lib.hid (N.out.below hy N.out.lt)
  clear hy
  have hqn := eqn_nil
  go_wp2
  go_ret
  exact ⟨rfl, K.out⟩
set_option maxRecDepth 100000 in
set_option maxHeartbeats 4000000 in
theorem slot_low (k : Fl) (hk : k.Fit) (hv : vK k = true) (g : Nat) (n : Int) (hn : n < 1) (w : World) :
    Calls Try.prog 20 #[.pointer (some ⟨g, 0, none⟩), .agg k.cs, .int .i64 n] w fun e w' => e = .returned (.int .i64 0) ∧ Below w.heap.size w w' := by
  have K := Lib.hid (Below.refl w.heap.size w)
  have CR := Lib.hid (fun W => row_yes k hk hv g W)
  have HL := Lib.hid (bK_ne hv)
  have d1 : decide (n < 1) = true := decide_eq_true hn
  obtain ⟨a0, a1, a18, a35, a36⟩ := fl_get k hk
  have G0 := Lib.hid a0
  have G1 := Lib.hid a1
  have G18 := Lib.hid a18
  have G35 := Lib.hid a35
  have G36 := Lib.hid a36
  have KP1 := Lib.hid (fl_src k)
  have KP2 := Lib.hid (fl_dst k hk)
  have IS := Lib.hid (fl_is k hk)
  have ID := Lib.hid (fl_id k hk)
  have IK := Lib.hid (fl_ik k hk)
  clear a0 a1 a18 a35 a36
  generalize bK k = bs at *
  generalize k.cs = kc at *
  generalize cellsA k.sv k.S = S at *
  generalize cellsA k.dv k.D = D at *
  generalize k.p = p at *
  generalize k.sv = sv at *
  generalize k.dv = dv at *
  generalize k.sp = sp at *
  generalize k.dp = dp at *
  clear hk hv hn
  go_enter Try.func20, Try.ntmps20
  have hal := (Below.refl w.heap.size w).alloc (Nat.le_refl _) (.cells kc 31)
  replace K := Lib.hid (K.out.trans (hal.mono K.out.size))
  have N := Lib.hid (Blk.new w 31 kc)
  clear hal
  have L17 : (loadVar 31 ⟨w.heap.size, 0, none⟩).run Try.prog (w.alloc (.cells kc 31)) = .ok (.agg kc) (w.alloc (.cells kc 31)) := run_blk_load (P := Try.prog) 31 (w.heap.size) _ N.out Try.underlying31 rfl IK.out
  replace L17 := Lib.hid L17
  go_wp2_with (((with_reducible refine wpList_load_want (op := ⟨some 9, .load 31 (.tmp 4), _, _, _, _⟩) ?wg17 31 (.tmp 4) ?wo17 ⟨w.heap.size, 0, none⟩ ?wx17 (.agg kc) L17.out ?_); (case wg17 => rfl); (case wo17 => rfl); (case wx17 => rfl)))
  clear L17
  have hzV1 : Hid ((w.alloc (.cells kc 31)).heap.size = w.heap.size + 1) := by show _ = _; simp only [World.size_alloc]
  generalize (w.alloc (.cells kc 31)) = V1 at *
  refine (CR.out V1).mono ?_
  rintro e V2 ⟨b, o, cp, rfl, hx, hy⟩
  replace K := Lib.hid (K.out.trans (hy.mono K.out.size))
  replace N := Lib.hid (N.out.below hy N.out.lt)
  have X := Lib.hid (hx)
  clear hx
  clear hy
  have hqn := eqn_some
  have HQ := HL.out
  go_wp2
  go_ret
  exact ⟨rfl, K.out⟩
set_option maxRecDepth 100000 in
set_option maxHeartbeats 4000000 in
theorem slot_yes (c : Cf) (hc : c.Fit) (k : Fl) (hk : k.Fit) (hv : vK k = true) (g : Nat) (n : Int) (hn : 1 ≤ n) (hn2 : n ≤ 9223372036854775807) (w : World) (hF : Blk w g 73 (famC c)) :
    Calls Try.prog 20 #[.pointer (some ⟨g, 0, none⟩), .agg k.cs, .int .i64 n] w fun e w' => e = .returned (.int .i64 ((slN c k n : Nat) : Int)) ∧ Below w.heap.size w w' := by
  have K := Lib.hid (Below.refl w.heap.size w)
  have F := Lib.hid hF
  have CR := Lib.hid (fun W => row_yes k hk hv g W)
  have HL := Lib.hid (bK_ne hv)
  have d1 : decide (n < 1) = false := decide_eq_false (by omega)
  obtain ⟨m, rfl⟩ : ∃ m : Nat, n = (m : Int) := ⟨n.toNat, by omega⟩
  have hr : slN c k (m : Int) = hsB c.sd 32 (bK k) % m := by unfold slN hsh; rw [hv, decide_eq_true hn, Bool.and_self, if_pos rfl, Int.toNat_natCast]
  rw [hr]
  have CB := Lib.hid (fun v W h1 h2 => below_any c hc 32 (by omega) m (by omega) (by omega) g v (bK k) (bK_lt k hk) W h1 h2)
  rw [show ((32 : Nat) : Int) = 32 from rfl] at CB
  generalize hsB c.sd 32 (bK k) % m = r at *
  obtain ⟨a0, a1, a18, a35, a36⟩ := fl_get k hk
  have G0 := Lib.hid a0
  have G1 := Lib.hid a1
  have G18 := Lib.hid a18
  have G35 := Lib.hid a35
  have G36 := Lib.hid a36
  have KP1 := Lib.hid (fl_src k)
  have KP2 := Lib.hid (fl_dst k hk)
  have IS := Lib.hid (fl_is k hk)
  have ID := Lib.hid (fl_id k hk)
  have IK := Lib.hid (fl_ik k hk)
  clear a0 a1 a18 a35 a36
  generalize bK k = bs at *
  generalize k.cs = kc at *
  generalize cellsA k.sv k.S = S at *
  generalize cellsA k.dv k.D = D at *
  generalize k.p = p at *
  generalize k.sv = sv at *
  generalize k.dv = dv at *
  generalize k.sp = sp at *
  generalize k.dp = dp at *
  clear hk hv hF hc hn hn2 hr
  go_enter Try.func20, Try.ntmps20
  have hal := (Below.refl w.heap.size w).alloc (Nat.le_refl _) (.cells kc 31)
  replace K := Lib.hid (K.out.trans (hal.mono K.out.size))
  replace F := Lib.hid (F.out.below hal F.out.lt)
  have N := Lib.hid (Blk.new w 31 kc)
  clear hal
  have L18 : (loadVar 31 ⟨w.heap.size, 0, none⟩).run Try.prog (w.alloc (.cells kc 31)) = .ok (.agg kc) (w.alloc (.cells kc 31)) := run_blk_load (P := Try.prog) 31 (w.heap.size) _ N.out Try.underlying31 rfl IK.out
  replace L18 := Lib.hid L18
  go_wp2_with (((with_reducible refine wpList_load_want (op := ⟨some 9, .load 31 (.tmp 4), _, _, _, _⟩) ?wg18 31 (.tmp 4) ?wo18 ⟨w.heap.size, 0, none⟩ ?wx18 (.agg kc) L18.out ?_); (case wg18 => rfl); (case wo18 => rfl); (case wx18 => rfl)))
  clear L18
  have hzV1 : Hid ((w.alloc (.cells kc 31)).heap.size = w.heap.size + 1) := by show _ = _; simp only [World.size_alloc]
  generalize (w.alloc (.cells kc 31)) = V1 at *
  refine (CR.out V1).mono ?_
  rintro e V2 ⟨b, o, cp, rfl, hx, hy⟩
  replace K := Lib.hid (K.out.trans (hy.mono K.out.size))
  replace F := Lib.hid (F.out.below hy F.out.lt)
  replace N := Lib.hid (N.out.below hy N.out.lt)
  have X := Lib.hid (hx)
  clear hx
  clear hy
  have hqn := eqn_some
  have HQ := HL.out
  go_wp2_with fail
  refine (CB.out _ V2 F.out X.out).mono ?_
  rintro e V3 ⟨rfl, hy⟩
  replace K := Lib.hid (K.out.trans (hy.mono K.out.size))
  replace F := Lib.hid (F.out.below hy F.out.lt)
  replace N := Lib.hid (N.out.below hy N.out.lt)
  replace X := Lib.hid (X.out.below hy)
  clear hy
  go_wp2
  go_ret
  exact ⟨rfl, K.out⟩
end Go.Proofs.Ytblkpnjmmdbgnaa
