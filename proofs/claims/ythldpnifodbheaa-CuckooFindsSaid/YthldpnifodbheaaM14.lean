/- Texts that the walks of this seat lean on, put together. -/
import Derived.LoopTactic
import Derived.Handy
import Derived.Laws.BitsAllLaws
import Derived.BigFrame
import Derived.Test.YthldpnifodbheaaTk
import Derived.Test.YthldpnifodbheaaTl
import Derived.Test.YthldpnifodbheaaM01
import Derived.Test.YthldpnifodbheaaM03
import Derived.Test.YthldpnifodbheaaM04
import Derived.Test.YthldpnifodbheaaM06
import Derived.Test.YthldpnifodbheaaM07
namespace Go.Proofs.Ythldpnifodbheaa
def stp (p r : Nat) : Nat := if r % 2 = 1 then r / 2 ^^^ p else r / 2
def stpN (p : Nat) : Nat → Nat → Nat
  | 0, r => r
  | n + 1, r => stpN p n (stp p r)
def tabC (p n : Nat) : Nat := stpN p 8 n
def byB (p r c : Nat) : Nat := stpN p 8 (r ^^^ c)
def byT (p r c : Nat) : Nat := r / 256 ^^^ tabC p ((r ^^^ c) % 256)
def ones : Nat := 4294967295
def regC (p r : Nat) (b : List Nat) : Nat := b.foldl (byB p) r
def crcC (p s : Nat) (b : List Nat) : Nat := regC p (s ^^^ ones) b ^^^ ones
set_option maxRecDepth 100000 in
theorem xor_div2 (a b : Nat) : (a ^^^ b) / 2 = a / 2 ^^^ b / 2 := by
  have := Nat.shiftRight_xor_distrib (a := a) (b := b) (i := 1)
  simpa [Nat.shiftRight_eq_div_pow] using this
set_option maxRecDepth 100000 in
theorem xor_mod2 (a b : Nat) : (a ^^^ b) % 2 = (a % 2 + b % 2) % 2 := by
  have h := Nat.testBit_xor a b 0
  rw [Nat.testBit_zero, Nat.testBit_zero, Nat.testBit_zero] at h
  have ha : a % 2 = 0 ∨ a % 2 = 1 := by omega
  have hb : b % 2 = 0 ∨ b % 2 = 1 := by omega
  have hc : (a ^^^ b) % 2 = 0 ∨ (a ^^^ b) % 2 = 1 := by omega
  rcases ha with ha | ha <;> rcases hb with hb | hb <;> rcases hc with hc | hc <;> simp [ha, hb, hc] at h ⊢
set_option maxRecDepth 100000 in
theorem stp_xor (p a b : Nat) : stp p (a ^^^ b) = stp p a ^^^ stp p b := by
  unfold stp
  rw [xor_div2, xor_mod2]
  have ha : a % 2 = 0 ∨ a % 2 = 1 := by omega
  have hb : b % 2 = 0 ∨ b % 2 = 1 := by omega
  rcases ha with ha | ha <;> rcases hb with hb | hb <;> simp only [ha, hb] <;> simp
  · rw [Nat.xor_assoc]
  · rw [Nat.xor_assoc, Nat.xor_assoc, Nat.xor_comm p (b / 2)]
  · rw [Nat.xor_assoc, Nat.xor_comm p, Nat.xor_assoc, Nat.xor_self, Nat.xor_zero]
set_option maxRecDepth 100000 in
theorem stpN_xor (p : Nat) : ∀ n a b, stpN p n (a ^^^ b) = stpN p n a ^^^ stpN p n b
  | 0, _, _ => rfl
  | n + 1, a, b => by unfold stpN; rw [stp_xor, stpN_xor p n]
set_option maxRecDepth 100000 in
theorem stp_even (p r : Nat) : stp p (2 * r) = r := by unfold stp; rw [if_neg (by omega)]; omega
set_option maxRecDepth 100000 in
theorem stpN_even (p r : Nat) : ∀ n, stpN p n (2 ^ n * r) = r
  | 0 => by simp [stpN]
  | n + 1 => by
    unfold stpN
    rw [show 2 ^ (n + 1) * r = 2 * (2 ^ n * r) from by rw [Nat.pow_succ, Nat.mul_comm (2 ^ n) 2, Nat.mul_assoc], stp_even, stpN_even p r n]
set_option maxRecDepth 100000 in
theorem split8 (r : Nat) : (256 * (r / 256)) ^^^ (r % 256) = r := by
  have h : 256 * (r / 256) ^^^ r % 256 = 256 * (r / 256) + r % 256 := by
    have q := Nat.two_pow_add_eq_or_of_lt (i := 8) (b := r % 256) (by omega) (r / 256)
    have q2 : (2 ^ 8 * (r / 256)) &&& (r % 256) = 0 := by
      apply Nat.eq_of_testBit_eq
      intro j
      rw [Nat.testBit_and, Nat.zero_testBit, Nat.testBit_two_pow_mul]
      by_cases hj : 8 ≤ j
      · have : (r % 256).testBit j = false := Nat.testBit_lt_two_pow (Nat.lt_of_lt_of_le (Nat.mod_lt _ (by decide)) (Nat.pow_le_pow_right (n := 2) (by decide) hj))
        rw [this, Bool.and_false]
      · simp [hj]
    have q3 : (2 ^ 8 * (r / 256)) ^^^ (r % 256) = (2 ^ 8 * (r / 256)) ||| (r % 256) := by
      apply Nat.eq_of_testBit_eq
      intro j
      have e := congrArg (fun n => n.testBit j) q2
      simp only [Nat.testBit_and, Nat.zero_testBit] at e
      rw [Nat.testBit_xor, Nat.testBit_or]
      revert e
      cases (2 ^ 8 * (r / 256)).testBit j <;> cases (r % 256).testBit j <;> simp
    rw [show (256 : Nat) = 2 ^ 8 from rfl] at *
    rw [q3, ← q]
  rw [h]
  omega
set_option maxRecDepth 100000 in
theorem stp8 (p r : Nat) : stpN p 8 r = r / 256 ^^^ tabC p (r % 256) := by
  conv => lhs; rw [← split8 r]
  rw [stpN_xor]
  have := stpN_even p (r / 256) 8
  rw [show (2 : Nat) ^ 8 = 256 from rfl] at this
  rw [this]
  rfl
set_option maxRecDepth 100000 in
theorem xor_div256 (r c : Nat) (h : c < 256) : (r ^^^ c) / 256 = r / 256 := by
  have := Nat.shiftRight_xor_distrib (a := r) (b := c) (i := 8)
  simp only [Nat.shiftRight_eq_div_pow] at this
  rw [show (2 : Nat) ^ 8 = 256 from rfl] at this
  rw [this, Nat.div_eq_of_lt h, Nat.xor_zero]
set_option maxRecDepth 100000 in
theorem by_eq (p r c : Nat) (h : c < 256) : byT p r c = byB p r c := by
  unfold byT byB
  rw [stp8, xor_div256 r c h]
set_option maxRecDepth 100000 in
theorem stp_lt (p r : Nat) (hp : p < 4294967296) (hr : r < 4294967296) : stp p r < 4294967296 := by
  unfold stp
  split
  · exact Nat.xor_lt_two_pow (n := 32) (by omega) hp
  · omega
set_option maxRecDepth 100000 in
theorem stpN_lt (p : Nat) (hp : p < 4294967296) : ∀ n r, r < 4294967296 → stpN p n r < 4294967296
  | 0, _, h => h
  | n + 1, r, h => stpN_lt p hp n _ (stp_lt p r hp h)
set_option maxRecDepth 100000 in
theorem byB_lt (p r c : Nat) (hp : p < 4294967296) (hr : r < 4294967296) (hc : c < 256) : byB p r c < 4294967296 := stpN_lt p hp 8 _ (Nat.xor_lt_two_pow (n := 32) hr (by omega))
set_option maxRecDepth 100000 in
theorem regC_lt (p : Nat) (hp : p < 4294967296) : ∀ (b : List Nat) (r : Nat), r < 4294967296 → (∀ c ∈ b, c < 256) → regC p r b < 4294967296
  | [], _, h, _ => h
  | c :: b, r, h, hb => regC_lt p hp b _ (byB_lt p r c hp h (hb c (by simp))) (fun x hx => hb x (by simp [hx]))
set_option maxRecDepth 100000 in
theorem crcC_lt (p s : Nat) (b : List Nat) (hp : p < 4294967296) (hs : s < 4294967296) (hb : ∀ c ∈ b, c < 256) : crcC p s b < 4294967296 :=
  Nat.xor_lt_two_pow (n := 32) (regC_lt p hp b _ (Nat.xor_lt_two_pow (n := 32) hs (by decide)) hb) (by decide)
end Go.Proofs.Ythldpnifodbheaa
namespace Go.Proofs.Ythldpnifodbheaa
def knownC : List Nat := [3988292384, 2197175160, 3945912366, 3582100097]
set_option maxRecDepth 100000 in
theorem knownC_hi (i : Nat) (h : i < 4) : 2147483648 ≤ knownC.getD i 0 ∧ knownC.getD i 0 < 4294967296 := by
  have : i = 0 ∨ i = 1 ∨ i = 2 ∨ i = 3 := by omega
  rcases this with rfl | rfl | rfl | rfl <;> decide
end Go.Proofs.Ythldpnifodbheaa
namespace Go.Proofs.Ythldpnifodbheaa
open Go.RowKit Go.Lib
set_option maxRecDepth 100000 in
theorem and1_u32 (x : Nat) (h : x < 4294967296) : bits .and .u32 (x : Int) 1 = ((x % 2 : Nat) : Int) := by
  have := u32_and_nat x 1 h (by decide)
  rw [nat_mask1] at this
  exact this
set_option maxRecDepth 100000 in
theorem xor_u32 (a b : Nat) (ha : a < 4294967296) (hb : b < 4294967296) : bits .xor .u32 (a : Int) (b : Int) = ((a ^^^ b : Nat) : Int) := u32_xor_nat a b ha hb
set_option maxRecDepth 100000 in
theorem stp_odd (p x : Nat) (h : x % 2 = 1) : stp p x = x / 2 ^^^ p := by unfold stp; rw [if_pos h]
set_option maxRecDepth 100000 in
theorem stp_not (p x : Nat) (h : x % 2 = 0) : stp p x = x / 2 := by unfold stp; rw [if_neg (by omega)]
set_option maxRecDepth 100000 in
theorem stpN_next (p k x R : Nat) (hk : k < 8) (h : stpN p (8 - k) x = R) : stpN p (8 - (k + 1)) (stp p x) = R := by
  rw [show 8 - k = (8 - (k + 1)) + 1 by omega] at h
  exact h
set_option maxRecDepth 100000 in
set_option maxHeartbeats 400000 in
theorem rest_any (p n : Nat) (hp : p < 4294967296) (hn : n < 4294967296) (w : World) :
    Calls Try.prog 72 #[.int .u32 (p : Int), .int .u32 (n : Int)] w fun e w' => e = .returned (.int .u32 ((tabC p n : Nat) : Int)) ∧ w = w' := by
  go_enter Try.func72, Try.ntmps72
  go_wp2
  go_loopw [1, 5] (fun r i wr => ∃ k x : Nat, k ≤ 8 ∧ i = .int .i64 (k : Int) ∧ r = .int .u32 (x : Int) ∧ Hid (x < 4294967296 ∧ stpN p (8 - k) x = tabC p n) ∧ w = wr) (fun _ i _ => 8 - (RowKit.intOf i).toNat)
  case atStart => exact ⟨0, n, by omega, rfl, rfl, ⟨hn, rfl⟩, rfl⟩
  case round =>
    obtain ⟨k, x, hk, rfl, rfl, hx, rfl⟩ := hrel
    by_cases hlt : k < 8
    · have d8 : decide ((k : Int) < 8) = true := decide_eq_true (by omega)
      have A1 := lh (and1_u32 x hx.out.1)
      have X1 := lh (xor_u32 (x / 2) p (by have := hx.out.1; omega) hp)
      have hq := lh (stp_lt p x hp hx.out.1)
      have hN := lh (stpN_next p k x _ hlt hx.out.2)
      have hd : (x : Int) / 2 = ((x / 2 : Nat) : Int) := by omega
      have HD := lh hd
      clear hd
      have hm : x % 2 = 0 ∨ x % 2 = 1 := by omega
      rcases hm with hm | hm
      · have hS := lh (stp_not p x hm)
        have a1 : bits .and .u32 (x : Int) 1 = 0 := by rw [A1.out, hm]; rfl
        go_wp2
        go_roundw
        case rel => exact ⟨k + 1, stp p x, Nat.succ_le_of_lt hlt, by go_num, by rw [hS.out, HD.out], ⟨hq.out, hN.out⟩, trivial⟩
        case measure => simp [RowKit.intOf]; omega
      · have hS := lh (stp_odd p x hm)
        have a1 : bits .and .u32 (x : Int) 1 = 1 := by rw [A1.out, hm]; rfl
        go_wp2
        go_roundw
        case rel => exact ⟨k + 1, stp p x, Nat.succ_le_of_lt hlt, by go_num, by rw [hS.out, HD.out, X1.out], ⟨hq.out, hN.out⟩, trivial⟩
        case measure => simp [RowKit.intOf]; omega
    · obtain rfl : k = 8 := by omega
      have d16 : decide (((8 : Nat) : Int) < 8) = false := by decide
      go_wp2
      go_ret
      exact ⟨by rw [← hx.out.2]; rfl, rfl⟩
end Go.Proofs.Ythldpnifodbheaa
namespace Go.Proofs.Ythldpnifodbheaa
open Go.RowKit
set_option maxRecDepth 100000 in
theorem wp_blk_store {P : Program} {w : World} {K : Act → World → Prop} {Q : Exit → Act → World → Prop} {g : Nat} {t : TypeId} {cs : Array Value} {op : Oper} {a : Act} (ty : TypeId) (x y : Operand) (ho : op.op = .store ty x y)
    (vs : Array Value) (hx : a.eval x = .pointer (some ⟨g, 0, none⟩)) (hy : a.eval y = .agg vs) (hc : Blk w g t cs) (hs : vs.size = cs.size)
    (hi : (P.info? ty).map (·.size) = some vs.size) (h1 : vs.all (·.oneCell') = true)
    (h : ∀ w', Blk w' g t vs → (∀ k, k ≠ g → w'.heap[k]? = w.heap[k]?) → (∀ B, B ≤ g → Below B w w') → K (a.put op.dst undef) w') : op.wp P a w K Q :=
  wp_store_mid ty x y ho g 0 vs hx hy (hc.thereN (by omega)) hi h1
    (h _ (hc.setAll vs hs) (fun k hk => setCells_far k hk _ _ _) (fun B hB => setCells_below hB _ _ _ (Below.refl _ _)))
end Go.Proofs.Ythldpnifodbheaa
namespace Go.Proofs.Ythldpnifodbheaa
open Go.RowKit
set_option maxRecDepth 100000 in
theorem wpList_load_want {P : Program} {ops : Array Oper} {rest : List Oper} {op : Oper} {a : Act} {w : World} {Q : Exit → Act → World → Prop} (hw : Region.wanted op (yielded ops a.tmps) = true) (ty : TypeId) (x : Operand) (ho : op.op = .load ty x)
    (p : Addr) (hx : a.eval x = .pointer (some p)) (v : Value) (hl : (loadVar ty p).run P w = .ok v w) (h : wpList P ops Q rest (a.put op.dst v) w) : wpList P ops Q (op :: rest) a w :=
  BigFrame.wpList_want hw fun K hK => by
    unfold Oper.wp
    simp only [exec_load ty x ho p hx v hl]
    exact hK _ _ h
end Go.Proofs.Ythldpnifodbheaa
namespace Go.Proofs.Ythldpnifodbheaa
open Go.RowKit Go.Lib
def tcs (l : List Nat) : Array Value := (nus .u32 l).toArray
def tabL (p : Nat) : List Nat := (List.range 256).map (tabC p)
set_option maxRecDepth 100000 in
theorem tabL_len (p : Nat) : (tabL p).length = 256 := by simp [tabL]
set_option maxRecDepth 100000 in
theorem tabL_at (p k : Nat) (h : k < 256) : (tabL p).getD k 0 = tabC p k := by
  unfold tabL
  rw [List.getD_eq_getElem?_getD, List.getElem?_map, List.getElem?_range h]
  rfl
set_option maxRecDepth 100000 in
theorem tcs_size (l : List Nat) : (tcs l).size = l.length := by simp [tcs, nus]
set_option maxRecDepth 100000 in
theorem tcs_at (l : List Nat) (k : Nat) (h : k < l.length) : (tcs l)[k]? = some (.int .u32 ((l.getD k 0 : Nat) : Int)) := by
  unfold tcs
  rw [List.getElem?_toArray]
  exact nus_get .u32 l k h
set_option maxRecDepth 100000 in
theorem tcs_set (l : List Nat) (k v : Nat) : (tcs l).setIfInBounds k (.int .u32 (v : Int)) = tcs (l.set k v) := by
  unfold tcs nus
  rw [List.setIfInBounds_toArray, List.map_set]
set_option maxRecDepth 100000 in
theorem tcs_one (l : List Nat) : (tcs l).all (·.oneCell') = true := by
  unfold tcs
  rw [Array.all_eq_true_iff_forall_mem]
  intro x hx
  exact oneCell_nus .u32 l x (by simpa using hx)
set_option maxRecDepth 100000 in
theorem zero26 (W : World) : (zeroValue 107).run Try.prog W = .ok (.agg (tcs (List.replicate 256 0))) W := by kernel_rfl
set_option maxRecDepth 100000 in
theorem size26 : (Try.prog.info? 107).map (·.size) = some 256 := by kernel_rfl
set_option maxRecDepth 100000 in
theorem info26 (l : List Nat) (h : l.length = 256) : (Try.prog.info? 107).map (·.size) = some (tcs l).size := by rw [tcs_size, h]; exact size26
def SoFar (p k : Nat) (L : List Nat) : Prop := L.length = 256 ∧ ∀ j, j < k → L.getD j 0 = tabC p j
set_option maxRecDepth 100000 in
theorem SoFar.next {p k : Nat} {L : List Nat} (h : SoFar p k L) (hk : k < 256) : SoFar p (k + 1) (L.set k (tabC p k)) := by
  obtain ⟨h1, h2⟩ := h
  refine ⟨by rw [List.length_set, h1], fun j hj => ?_⟩
  rw [List.getD_eq_getElem?_getD]
  by_cases e : j = k
  · subst e
    rw [List.getElem?_set_self (by omega)]
    rfl
  · rw [List.getElem?_set_ne (by omega), ← List.getD_eq_getElem?_getD]
    exact h2 j (by omega)
set_option maxRecDepth 100000 in
theorem SoFar.all {p : Nat} {L : List Nat} (h : SoFar p 256 L) : L = tabL p := by
  obtain ⟨h1, h2⟩ := h
  apply List.ext_getElem
  · rw [h1, tabL_len]
  · intro i hi hj
    have a := h2 i (by omega)
    have b := tabL_at p i (by omega)
    rw [List.getD_eq_getElem?_getD, List.getElem?_eq_getElem hi] at a
    rw [List.getD_eq_getElem?_getD, List.getElem?_eq_getElem hj] at b
    simp only [Option.getD_some] at a b
    rw [a, b]
set_option maxRecDepth 100000 in
set_option maxHeartbeats 400000 in
theorem make_any (p : Nat) (hp : p < 4294967296) (w : World) :
    Calls Try.prog 48 #[.int .u32 (p : Int)] w fun e w' => e = .returned (.agg (tcs (tabL p))) ∧ Below w.heap.size w w' := by
  obtain ⟨ZL, hZL⟩ : ∃ Z, Z = List.replicate 256 0 := ⟨_, rfl⟩
  have z26 : ∀ W, (zeroValue 107).run Try.prog W = .ok (.agg (tcs ZL)) W := by rw [hZL]; exact zero26
  have hl : ZL.length = 256 := by rw [hZL]; exact List.length_replicate
  clear hZL
  have HL := lh hl
  have K1 := (Below.refl w.heap.size w).alloc (Nat.le_refl _) (.cells (tcs ZL) 107)
  have K2 := lh (K1.alloc (K1.size) (.cells (tcs ZL) 107))
  have B2 := lh ((Blk.new w 107 (tcs ZL)).alloc (.cells (tcs ZL) 107))
  have B3' := Blk.new (w.alloc (.cells (tcs ZL) 107)) 107 (tcs ZL)
  rw [World.size_alloc] at B3'
  have B3 := lh B3'
  have R := lh (fun n hn W => rest_any p n hp hn W)
  clear hl B3' K1
  go_enter Try.func48, Try.ntmps48
  go_wp2
  go_loopw [4, 5] (fun n i wr => ∃ (k : Nat) (L : List Nat), k ≤ 256 ∧ i = .int .i64 (k : Int) ∧ Hid (SoFar p k L) ∧ Hid (Blk wr w.heap.size 107 (tcs ZL)) ∧ Hid (Blk wr (w.heap.size + 1) 107 (tcs L)) ∧ Hid (Below w.heap.size w wr)) (fun _ i _ => 256 - (RowKit.intOf i).toNat)
  case atStart => exact ⟨0, ZL, by omega, rfl, ⟨HL.out, fun j h => by omega⟩, B2, B3, K2⟩
  case round =>
    obtain ⟨k, L, hk, rfl, hS, hZ, hB, hK⟩ := hrel
    clear B2 B3 K2
    by_cases hlt : k < 256
    · have d8 : decide ((k : Int) < 256) = true := decide_eq_true (by omega)
      have w1 : IntKind.u32.wrap (k : Int) = (k : Int) := by rw [IntKind.wrap_u32]; omega
      have R1 := lh (fun W => R.out k (by omega) W)
      have hc := hB.out.cell k
      rw [tcs_at L k (by rw [hS.out.1]; exact hlt)] at hc
      have hf := hB.out.frozen k
      have HC := lh hc
      have hf2 := lh (hS.out.next hlt)
      have hB2' := hB.out.set_ k (.int .u32 ((tabC p k : Nat) : Int))
      rw [tcs_set] at hB2'
      have hB2 := lh hB2'
      have hZ2 := lh (hZ.out.far (p := ⟨w.heap.size + 1, k, none⟩) (by show _ ≠ w.heap.size + 1; omega) (.int .u32 ((tabC p k : Nat) : Int)))
      have hK2 := lh (hK.out.setCell (p := ⟨w.heap.size + 1, k, none⟩) (by show _ ≤ w.heap.size + 1; omega) (.int .u32 ((tabC p k : Nat) : Int)))
      clear hB2' R
      go_wp2_with fail
      refine (R1.out _).mono ?_
      rintro e w' ⟨rfl, rfl⟩
      go_wp2
      go_roundw
      case rel => exact ⟨k + 1, L.set k (tabC p k), Nat.succ_le_of_lt hlt, by go_num, hf2, hZ2, hB2, hK2⟩
      case measure => simp [RowKit.intOf]; omega
    · obtain rfl : k = 256 := by omega
      have d16 : decide (((256 : Nat) : Int) < 256) = false := by decide
      have hl2 := lh hS.out.1
      obtain rfl := hS.out.all
      have L1 := lh (run_blk_load (P := Try.prog) 107 (w.heap.size + 1) _ hB.out Try.underlying107 rfl (info26 _ hl2.out))
      go_wp2_with (first | ((with_reducible refine wpList_load_want (op := ⟨some 15, .load 107 (.tmp 3), _, _, _, _⟩) ?wg1 107 (.tmp 3) ?wo1 ⟨w.heap.size + 1, 0, none⟩ ?wx1 (.agg (tcs (tabL p))) L1.out ?_); (case wg1 => rfl); (case wo1 => rfl); (case wx1 => rfl)) | ((with_reducible refine wpList_blk_store (op := ⟨none, .store 107 (.tmp 2) (.tmp 15), _, _, _, _⟩) ?sg2 107 (.tmp 2) (.tmp 15) ?so2 (w.heap.size) (tcs (tabL p)) ?sx2 ?sy2 hZ.out (by rw [tcs_size, tcs_size, HL.out, hl2.out]) (info26 _ hl2.out) (tcs_one _) ?_); (case sg2 => rfl); (case so2 => rfl); (case sx2 => rfl); (case sy2 => rfl)))
      intro w2 hA hF hW
      have HA := lh hA
      have hk2 := lh (hK.out.trans (hW _ (Nat.le_refl _)))
      clear hF hW hA L1 hB hZ hS hK z26 R
      go_wp2
      have hrun := run_blk_load (P := Try.prog) 107 w.heap.size _ HA.out Try.underlying107 rfl (info26 _ hl2.out)
      exact bodyPost_ret (results_cell 2 107 w.heap.size _ Try.results48 rfl hrun) rfl ⟨rfl, hk2.out⟩
end Go.Proofs.Ythldpnifodbheaa
