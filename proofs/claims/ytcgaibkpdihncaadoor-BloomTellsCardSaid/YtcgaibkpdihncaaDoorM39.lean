/- Texts that the walks of this seat lean on, put together. -/
import Derived.StillTailTactics
import Derived.Deep.CutBlock
import Derived.Deep.DeepCutAuto
import Derived.LoopTactic
import Derived.Handy
import Derived.RangeFuncRecord
import Derived.Test.YtcgaibkpdihncaaDoorTk
import Derived.Test.YtcgaibkpdihncaaDoorM15
import Derived.Test.YtcgaibkpdihncaaDoorM20
import Derived.Test.YtcgaibkpdihncaaDoorM24
import Derived.Test.YtcgaibkpdihncaaDoorM38
namespace Go.Proofs.YtcgaibkpdihncaaDoor
open Go.RowKit Go.Lib
theorem rest_and (x a : Nat) (hx : x < 18446744073709551616) (ha : a < 64) : bits .andNot .u64 (x : Int) ((2 ^ a - 1 : Nat) : Int) = ((restN x a : Nat) : Int) :=
  u64_andNot_nat _ _ hx (by
    have : 2 ^ a < 2 ^ 64 := Nat.pow_lt_pow_right (by decide) ha
    omega)
set_option maxRecDepth 100000 in
set_option maxHeartbeats 4000000 in
theorem next_any (gf gF gW N L M p : Nat) (hL2 : L ≤ 1024) (hp : p ≤ 64 * L) (w : World) (hE : Env w) (hB : Blk w gF 66 (flt gf N gW L)) (hW : Blk w gW 70 (nus .u64 (wrds M L)).toArray) :
    Calls Tryd.prog 41 #[.pointer (some ⟨gF, 0, none⟩), .int .i64 (p : Int)] w fun e w' => (∃ (q : Nat) (ok : Bool), e = .returned (.tuple #[.int .i64 (q : Int), .bool ok]) ∧ (ok = true → Nxt M p (64 * L) q) ∧ (ok = false → ∀ i, p ≤ i → i < 64 * L → M.testBit i = false)) ∧ Below w.heap.size w w' := by
  have K := Lib.hid (Below.refl w.heap.size w)
  have B := Lib.hid hB
  have Z := Lib.hid hW
  have EN := Lib.hid hE
  obtain ⟨fb0, fb1, fb2⟩ := flt_get gf N gW L
  have FB2 := Lib.hid fb2
  have qE := hE.lt
  clear fb0 fb1 fb2 hB hW hE
  generalize flt gf N gW L = fl at *
  have HL := Lib.hid (wrds_len M L)
  have CS := Lib.hid (fun W => spot_any p (by omega) W)
  obtain ⟨q, hq⟩ : ∃ q, q = p / 64 := ⟨_, rfl⟩
  obtain ⟨r, hr⟩ : ∃ r, r = p % 64 := ⟨_, rfl⟩
  rw [← hq, ← hr] at CS
  have hr64 : r < 64 := by omega
  have hqL : q ≤ L := by omega
  have hpq : p = 64 * q + r := by omega
  have h2r : 1 ≤ 2 ^ r := Nat.one_le_two_pow
  have h2l : 2 ^ r < 2 ^ 64 := Nat.pow_lt_pow_right (by decide) hr64
  obtain ⟨z, hz⟩ : ∃ z, z = 2 ^ r := ⟨_, rfl⟩
  rw [← hz] at CS h2r h2l
  have w1 : IntKind.u64.wrap ((z : Int) - 1) = ((z - 1 : Nat) : Int) := by rw [IntKind.wrap_u64]; omega
  have HZ := Lib.hid hz
  have HPQ := Lib.hid hpq
  obtain ⟨a0, ha0⟩ : ∃ a0, a0 = z - 1 := ⟨_, rfl⟩
  rw [← ha0] at w1
  have HA0 := Lib.hid (show a0 = 2 ^ r - 1 by rw [ha0, hz])
  clear hq hr hz h2r h2l hpq ha0
  go_enter Tryd.func41, Tryd.ntmps41
  go_wp2_with fail
  refine (CS.out w).mono ?_
  rintro e V1 ⟨rfl, hy⟩
  replace K := Lib.hid (K.out.trans (hy.mono K.out.size))
  replace B := Lib.hid (B.out.below hy B.out.lt)
  replace Z := Lib.hid (Z.out.below hy Z.out.lt)
  replace EN := Lib.hid (EN.out.below hy (by have := K.out.size; omega))
  clear hy
  go_wp2
  go_loopw [6, 8] (fun i a wr => ∃ (j : Nat) (s : Nat), j ≤ L ∧ s < 64 ∧ i = .int .i64 (j : Int) ∧ a = .int .u64 ((2 ^ s - 1 : Nat) : Int) ∧ Hid (p ≤ 64 * j + s ∧ ∀ i, p ≤ i → i < 64 * j + s → M.testBit i = false) ∧ Hid (Env wr) ∧ Hid (Blk wr gF 66 fl) ∧ Hid (Blk wr gW 70 (nus .u64 (wrds M L)).toArray) ∧ Hid (Below w.heap.size w wr)) (fun i _ _ => L - (RowKit.intOf i).toNat)
  case atStart => exact ⟨q, r, hqL, hr64, rfl, by rw [HA0.out], Lib.hid ⟨by have := HPQ.out; omega, fun i h1 h2 => by have := HPQ.out; omega⟩, EN, B, Z, K⟩
  case round =>
    obtain ⟨j, s, hj, hs, rfl, rfl, HX, Er, Br, Zr, Kr⟩ := hrel
    clear B Z K EN
    obtain ⟨t, ht⟩ : ∃ t, t = 2 ^ s - 1 := ⟨_, rfl⟩
    by_cases hlt : j < L
    · have d8 : decide ((j : Int) < (L : Int)) = true := decide_eq_true (by omega)
      have d9 : decide (j < L) = true := decide_eq_true (by omega)
      have hb2 : 0 ≤ (j : Int) ∧ (j : Int) < (L : Int) := by omega
      have cw := Zr.out.cell j
      rw [nusa_at _ _ _ (by rw [HL.out]; exact hlt), wrds_get M L j hlt] at cw
      have A1 := Lib.hid (rest_and (wrd M j) s (wrd_lt M j) hs)
      rw [← ht] at A1 ⊢
      clear ht
      have a1 := A1.out
      have c2 := (Br.out.cell 2).trans FB2.out
      by_cases hy0 : restN (wrd M j) s = 0
      · have HNX := Lib.hid (nxt_none M p j s hs HX.out.2 hy0)
        rw [hy0] at a1
        clear hy0
        generalize wrd M j = x at *
        have w6 : IntKind.i64.wrap ((j : Int) + 1) = ((j + 1 : Nat) : Int) := by rw [IntKind.wrap_i64]; omega
        go_wp2
        go_roundw
        case rel => exact ⟨j + 1, 0, Nat.succ_le_of_lt hlt, by omega, by go_num, rfl, Lib.hid ⟨by have := HX.out.1; omega, fun i h1 h2 => HNX.out i h1 (by omega)⟩, Er, Br, Zr, Kr⟩
        case measure => simp [RowKit.intOf]; omega
      · have HNX := Lib.hid (nxt_word M p (64 * L) j s hs (by omega) HX.out.1 HX.out.2 hy0)
        have hc := (ctz_bit _ hy0 (restN_lt _ s (wrd_lt M j))).2.2
        have CT := Lib.hid (fun W h => tz_all (restN (wrd M j) s) (restN_lt _ s (wrd_lt M j)) hy0 W h)
        generalize Lib.ctz 64 (restN (wrd M j) s) = c at *
        generalize restN (wrd M j) s = y at *
        generalize wrd M j = x at *
        have n1 : ((y : Int) != 0) = true := by rw [bne_iff_ne]; omega
        have n2 : (y != 0) = true := by rw [bne_iff_ne]; omega
        have n3 : ((y : Int) == 0) = false := by rw [beq_eq_false_iff_ne]; omega
        have w6 : IntKind.i64.wrap ((j : Int) * 64) = (j : Int) * 64 := by rw [IntKind.wrap_i64]; omega
        have w7 : IntKind.i64.wrap ((j : Int) * 64 + (c : Int)) = ((64 * j + c : Nat) : Int) := by rw [IntKind.wrap_i64]; omega
        go_wp2_with fail
        refine (CT.out wr Er.out).mono ?_
        rintro e w' ⟨rfl, rfl⟩
        go_wp2
        go_ret2
        exact ⟨⟨64 * j + c, true, rfl, fun _ => HNX.out, fun h => by cases h⟩, Kr.out⟩
    · obtain rfl : j = L := by omega
      have d8 : decide (((j : Nat) : Int) < (j : Int)) = false := decide_eq_false (by omega)
      have d9 : decide (j < j) = false := decide_eq_false (by omega)
      have c2 := (Br.out.cell 2).trans FB2.out
      rw [← ht]
      clear ht
      go_wp2
      go_ret2
      exact ⟨⟨0, false, rfl, fun h => (by cases h), fun _ i h1 h2 => HX.out.2 i h1 (by omega)⟩, Kr.out⟩
end Go.Proofs.YtcgaibkpdihncaaDoor
namespace Go.Proofs.YtcgaibkpdihncaaDoor
open Go.RowKit Go.Shelf
attribute [local go_sem] Oper.semAt_some
set_option maxRecDepth 100000 in
set_option maxHeartbeats 1000000 in
theorem ones_fn (p : Option Addr) (w : World) :
    Calls Tryd.prog 31 #[.pointer p] w fun e w' => e = .returned (.func (.func 40) #[] #[.pointer (some ⟨w.heap.size, 0, none⟩)]) ∧ Boxed w' w.heap.size 35 (.pointer p) ∧ Below w.heap.size w w' := by
  have B1 := Lib.hid (Boxed.new w 35 (.pointer p))
  have K := Lib.hid ((Below.refl w.heap.size w).alloc (Nat.le_refl _) (.cells #[.pointer p] 35))
  go_enter Tryd.func31, Tryd.ntmps31
  go_wp2
  go_ret
  exact ⟨rfl, B1.out, K.out⟩
def SK (Bf gF gW : Nat) (k : Nat) : Prop := k = 0 ∨ k = Bf ∨ k = gF ∨ k = gW
set_option maxRecDepth 100000 in
set_option maxHeartbeats 4000000 in
theorem ito_in (n : Nat) (hn : 1 ≤ n) (l Bf gf gF gW N L M : Nat) (hL2 : L ≤ 1024) (J Jx : List Nat → World → Prop)
    (W : World) (hJ : AbidesFrom W.heap.size J)
    (hY : ∀ pre x W, J pre W → pre.length < (bitsL M (64 * L)).length → YieldAt Fence.wide (n - 1) Tryd.prog l #[.int .i64 ((x : Nat) : Int)] W fun e W' =>
      (e = .returned (.bool true) ∧ J (pre ++ [x]) W' ∧ Kept (SK Bf gF gW) W W') ∨ (e = .returned (.bool false) ∧ Jx (pre ++ [x]) W'))
    (hBf : Boxed W Bf 35 (.pointer (some ⟨gF, 0, none⟩))) (hE : Env W) (hB : Blk W gF 66 (flt gf N gW L)) (hW : Blk W gW 70 (nus .u64 (wrds M L)).toArray) (h0 : J [] W) :
    CallsIn Fence.wide n Tryd.prog 40 #[.func (.yield l) #[] #[], .pointer (some ⟨Bf, 0, none⟩)] W fun e W' => (∃ v, e = .returned v) ∧
      ((∃ ys, ys = bitsL M (64 * L) ∧ J ys W') ∨ (∃ pre, (∃ k, k ≤ (bitsL M (64 * L)).length ∧ pre = (bitsL M (64 * L)).take k) ∧ Jx pre W')) := by
  have HY := Lib.hid hY
  have HJ := Lib.hid hJ
  have HBF := Lib.hid hBf
  have HEN := Lib.hid hE
  have HB := Lib.hid hB
  have HW := Lib.hid hW
  have HP := Lib.hid (fun p (hp : p ≤ 64 * L) w h1 h2 h3 => next_any gf gF gW N L M p hL2 hp w h1 h2 h3)
  have HS : Hid (∀ j, SK Bf gF gW j → j < W.heap.size) := by
    show ∀ j, SK Bf gF gW j → j < W.heap.size
    intro j hj
    rcases hj with rfl | rfl | rfl | rfl
    · exact hE.lt
    · exact hBf.lt
    · exact hB.lt
    · exact hW.lt
  have CN := Lib.hid (HP.out 0 (Nat.zero_le _) W hE hB hW)
  have cBf := hBf.cell
  clear hY hJ hBf hE hB hW
  refine callsIn_of_wp Tryd.func40 rfl trivial ?_ rfl
  simp only [Tryd.ntmps40, List.size_toArray, List.length_cons, List.length_nil, Nat.reduceAdd, Nat.reduceSub, Array.replicate_succ, Array.replicate_zero, List.push_toArray, List.append_toArray, List.nil_append, List.cons_append]
  have hq := eqp_some
  gi_wp2
  refine ⟨trivial, ?_⟩
  refine (callsIn_wide.2 CN.out).mono ?_
  rintro e V ⟨⟨q0, ok0, rfl, hq1, hq2⟩, hyV⟩
  have HQ1 := Lib.hid hq1
  have HQ2 := Lib.hid hq2
  have HJV := Lib.hid (HJ.out _ _ _ none h0 (grown_of_below hyV) (fun r e => by cases e))
  have HKV := Lib.hid (Kept.below hyV HS.out)
  clear hq1 hq2 h0 CN cBf hyV
  gi_wp2
  gi_loopw [3, 4] (fun i o wr => ∃ (p q : Nat) (ok : Bool), p ≤ 64 * L ∧ i = .int .i64 (q : Int) ∧ o = .bool ok ∧ Hid (ok = true → Nxt M p (64 * L) q) ∧ Hid (ok = false → ∀ i, p ≤ i → i < 64 * L → M.testBit i = false) ∧ Hid (J (bitsL M p) wr) ∧ Hid (Kept (SK Bf gF gW) W wr))
    (fun i o _ => match o with | .bool true => 64 * L - (intOf i).toNat | _ => 0)
  case atStart => exact ⟨0, q0, ok0, Nat.zero_le _, rfl, rfl, HQ1, HQ2, HJV, HKV⟩
  case round =>
    obtain ⟨p, q, ok, hp, rfl, rfl, H1, H2, HJr, HKr⟩ := hrel
    clear HQ1 HQ2 HJV HKV
    cases ok with
    | false =>
      have HE : Hid (bitsL M (64 * L) = bitsL M p) := bitsL_none' M p (64 * L) hp (H2.out rfl)
      clear H1 H2
      gi_wp2
      refine ⟨fun f hf => (by cases hf), ?_⟩
      gi_wp2
      refine bodyPost_end (results_none rfl _ _ _) rfl ?_
      exact ⟨⟨_, rfl⟩, .inl ⟨_, rfl, by rw [HE.out]; exact HJr.out⟩⟩
    | true =>
      have hx := H1.out rfl
      have HX := Lib.hid hx
      have hq1 : q + 1 ≤ 64 * L := hx.2.1
      have HQN := Lib.hid (nxt_snoc hx)
      have HTK := Lib.hid (nxt_take hx)
      have HLN := Lib.hid (nxt_len hx)
      have bx1 := Lib.hid (show q + 1 ≤ 64 * L ∧ q < 64 * L from ⟨hq1, hq1⟩)
      clear H1 H2 hx
      obtain ⟨fn, tmps, assign, body, hy, hR⟩ := HY.out _ q wr HJr.out HLN.out
      gi_wp2
      refine hR.mono ?_
      rintro e W3 (⟨rfl, hJ3, hk3⟩ | ⟨rfl, hJx3⟩)
      · have HK3 := Lib.hid (HKr.out.trans hk3)
        have CN := Lib.hid (HP.out (q + 1) hq1 W3 (HEN.out.kept (HK3.out.2 0 (.inl rfl))) ((HK3.out.2 gF (.inr (.inr (.inl rfl)))).trans HB.out) ((HK3.out.2 gW (.inr (.inr (.inr rfl)))).trans HW.out))
        have cBf : W3.cell? ⟨Bf, 0, none⟩ = some (.pointer (some ⟨gF, 0, none⟩)) := Boxed.cell (t := 35) ((HK3.out.2 Bf (.inr (.inl rfl))).trans HBF.out)
        have w6 : IntKind.i64.wrap ((q : Int) + 1) = ((q + 1 : Nat) : Int) := by rw [IntKind.wrap_i64]; have := bx1.out; omega
        have HJ3 := Lib.hid hJ3
        clear hR hy hJ3 hk3 HKr HJr
        gi_wp2
        refine ⟨trivial, ?_⟩
        refine (callsIn_wide.2 CN.out).mono ?_
        rintro e V4 ⟨⟨q2, ok2, rfl, hn1, hn2⟩, hyV⟩
        have HN1 := Lib.hid hn1
        have HN2 := Lib.hid hn2
        have HS3 : Hid (∀ j, SK Bf gF gW j → j < W3.heap.size) := fun j hj => Nat.lt_of_lt_of_le (HS.out j hj) HK3.out.1
        have HJ4 := Lib.hid (HJ.out _ _ _ none HJ3.out (grown_of_below hyV) (fun r e => by cases e))
        have HK4 := Lib.hid (HK3.out.trans (Kept.below hyV HS3.out))
        clear hn1 hn2 CN cBf hyV HJ3 HK3 HS3
        gi_wp2
        go_roundw
        case rel => exact ⟨q + 1, q2, ok2, hq1, rfl, rfl, HN1, HN2, by rw [HQN.out]; exact HJ4, HK4⟩
        case measure =>
          cases ok2 with
          | false => simp [intOf]; have := bx1.out; omega
          | true => simp [intOf]; have := bx1.out; have := HN1.out rfl; have := this.1; omega
      · gi_wp2
        refine bodyPost_end (results_none rfl _ _ _) rfl ?_
        exact ⟨⟨_, rfl⟩, .inr ⟨_, ⟨(bitsL M (q + 1)).length, by have := HLN.out; rw [HQN.out]; simp; omega, by rw [HTK.out, HQN.out]⟩, hJx3⟩⟩
theorem ito_stops (n : Nat) (hn : 1 ≤ n) (Bf gf gF gW N L M : Nat) (hL2 : L ≤ 1024) (w : World)
    (hBf : Boxed w Bf 35 (.pointer (some ⟨gF, 0, none⟩))) (hE : Env w) (hB : Blk w gF 66 (flt gf N gW L)) (hW : Blk w gW 70 (nus .u64 (wrds M L)).toArray) :
    SeqStopsK Fence.wide n Tryd.prog 40 #[.pointer (some ⟨Bf, 0, none⟩)] (fun x : Nat => #[.int .i64 (x : Int)]) (Kept (SK Bf gF gW)) (fun ys => ys = bitsL M (64 * L)) (fun pre => ∃ k, k ≤ (bitsL M (64 * L)).length ∧ pre = (bitsL M (64 * L)).take k) (bitsL M (64 * L)).length w := fun l J Jx W hWW hJ _ hY h0 =>
  ito_in n hn l Bf gf gF gW N L M hL2 J Jx W hJ hY ((hWW.block Bf hBf.lt).trans hBf) (hE.kept (hWW.block 0 hE.lt)) ((hWW.block gF hB.lt).trans hB) ((hWW.block gW hW.lt).trans hW) h0
end Go.Proofs.YtcgaibkpdihncaaDoor
namespace Go.Proofs.YtcgaibkpdihncaaDoor
open Go.RowKit Go.Shelf
attribute [local go_sem] Oper.semAt_some
def cutN (L : List Nat) (most : Int) : List Nat := if 0 ≤ most ∧ most ≤ (L.length : Int) then L.take most.toNat else L
theorem cutN_done (L : List Nat) (most : Int) (h : 0 ≤ most → (L.length : Int) ≤ most) : cutN L most = L := by
  unfold cutN
  split
  · rename_i hc
    have := h hc.1
    exact List.take_of_length_le (by omega)
  · rfl
theorem cutN_stop (L pre : List Nat) (most : Int) (x : Nat) (k : Nat) (h : pre ++ [x] = L.take k) (hm : (pre.length : Int) = most) : cutN L most = pre := by
  have hl : pre.length + 1 = (L.take k).length := by rw [← h]; simp
  rw [List.length_take] at hl
  unfold cutN
  rw [if_pos (by omega), ← hm]
  have : (L.take k).take pre.length = pre := by rw [← h]; simp
  rw [List.take_take] at this
  rw [show min pre.length k = pre.length by omega] at this
  exact this
def GotN (b hi : Nat) (most : Int) (w0 : World) (l : List Nat) (W : World) : Prop :=
  (∃ v, Boxed W (b + 1) 22 v ∧ W.ownsRow hi 3 1 v l.length (nus .i64 l) ∧ True) ∧
  Boxed W b 3 (.int .i64 most) ∧ (0 ≤ most → (l.length : Int) ≤ most) ∧ hi ≤ W.heap.size ∧ Below b w0 W
theorem GotN.own (b hi B : Nat) (most : Int) (w0 : World) (h : b ≤ w0.heap.size) (hB : b ≤ B) : OwnFrom B (GotN b hi most w0) :=
  OwnFrom.and (Own.from (holdsRow_own hi (b + 1) 22 3 1 (fun l : List Nat => l.length) (fun l => nus .i64 l) (fun _ _ => True)) _)
    (OwnFrom.and (Own.from (boxed_own b 3 (fun _ => .int .i64 most)) _) (OwnFrom.and (ownFrom_pure _ (fun l : List Nat => (0 ≤ most → (l.length : Int) ≤ most))) (OwnFrom.and (fun _ _ _ _ hs hg _ => Nat.le_trans hs hg.size) (ownFrom_below h hB))))
theorem eql_fnN (x y : Array Value) (w : World) : (binOp .eql 76 (.func (.func 40) x y) .nilFunc).run Tryd.prog w = .ok (.bool false) w := by kernel_rfl
theorem cell_one_newN (W : World) (c : Int) (e : TypeId) : ∀ j u, ([.int .i64 c] : List Value)[j]? = some u → (W.alloc (.cells #[.int .i64 c] e)).cell? ((⟨W.heap.size, 0, none⟩ : Addr).add j) = some u := by
  intro j u hj
  have hg := World.alloc_heap_new W (.cells #[.int .i64 c] e)
  rw [Addr.add_lit]
  match j, hj with
  | 0, hj => cases hj; simp only [World.cell?, hg]; rfl
theorem one_oneN (c : Int) : ∀ u ∈ ([.int .i64 c] : List Value), u.oneCell' = true := by
  intro u hu
  simp at hu
  rcases hu with rfl; rfl
theorem box_app1 {W w1 : World} {hi b B : Nat} {t e : TypeId} {v v' : Value} {k m : Nat} {xs ys : List Value} {tmp : Obj}
    (hv : Boxed W B t v) (hte : t ≠ e) (hrow : W.ownsRow hi e 1 v k xs) (hhi : hi ≤ W.heap.size) (hbB : b ≤ B) (hBh : B < hi)
    (hown' : w1.ownsRow hi e 1 v' m ys) (hgrow : (W.alloc tmp).grownBy w1 v.ownBlock) :
    Boxed w1 B t v ∧ Boxed (w1.setCell ⟨B, 0, none⟩ v') B t v' ∧ (w1.setCell ⟨B, 0, none⟩ v').ownsRow hi e 1 v' m ys ∧ KeepsOthers W (w1.setCell ⟨B, 0, none⟩ v') ∧ Kept (fun q => q < hi ∧ q ≠ B) W (w1.setCell ⟨B, 0, none⟩ v') ∧ Below b W (w1.setCell ⟨B, 0, none⟩ v') := by
  have hv1 : Boxed w1 B t v := (hv.alloc tmp).kept hgrow (hv.not_row hte hrow)
  have hb : ∀ j, v.ownBlock = some j → hi ≤ j := fun j ej => (hrow.lt j ej).1
  refine ⟨hv1, hv1.set v', hown'.kept (grownBy_setCell' w1 B v') (.inr (hv1.not_row hte hown').symm), ?_, ⟨?_, fun k h1 => ?_⟩, ?_⟩
  · refine ((KeepsOthers.alloc W tmp).trans (KeepsOthers.of_grownBy hgrow fun j o ej hj => ?_)).trans (KeepsOthers.setCell _ _ _)
    rcases (hrow.alloc tmp).2 with ⟨rfl, _⟩ | ⟨g, cap, cur, rfl, _, hgb, _⟩
    · simp [Value.ownBlock] at ej
    · obtain rfl : g = j := by simpa [Value.ownBlock] using ej
      rw [hgb] at hj; cases hj; rfl
  · have h1 := hgrow.size
    have h2 := (grownBy_setCell' w1 B v').size
    rw [World.size_alloc] at h1
    omega
  · refine ((grownBy_setCell' w1 B v').block k (by have := hgrow.size; rw [World.size_alloc] at this; omega) (fun e => h1.2 (by cases e; rfl))).trans ((hgrow.block k (by rw [World.size_alloc]; omega) (fun e => ?_)).trans (Below.heap_alloc W tmp k (by omega)))
    have := hb k e.symm
    omega
  · exact (((Below.refl b W).alloc (by omega) tmp).grown hgrow (by rw [World.size_alloc]; omega) fun j ej => by have := hb j ej; omega).setCell (p := ⟨B, 0, none⟩) hbB v'
set_option maxRecDepth 100000 in
set_option maxHeartbeats 4000000 in
theorem lones_any (gf gF gW N L M : Nat) (hL : N ≤ 64 * L) (hL2 : L ≤ 1024) (hU : Under M N) (most : Int) (w : World) (hE : Env w) (hF : Blk w gF 66 (flt gf N gW L)) (hWd : Blk w gW 70 (nus .u64 (wrds M L)).toArray) :
    Calls Tryd.prog 18 #[.pointer (some ⟨gF, 0, none⟩), .int .i64 most] w fun e w' => ∃ x, e = .returned x ∧ w'.ownsRow w.heap.size 3 1 x (cutN (bitsL M N) most).length (nus .i64 (cutN (bitsL M N) most)) ∧ Below w.heap.size w w' := by
  rw [← bitsL_under M (64 * L) N hU hL]
  obtain ⟨i0, hi, hz0, hz1, hz2⟩ := info_parts info3
  have hl4 : (bitsL M (64 * L)).length ≤ 65536 := Nat.le_trans (bitsL_le M (64 * L)) (by omega)
  refine (callsIn_wide (n := 3)).1 ?_
  refine callsIn_of_wp_marks Tryd.func18 rfl trivial ?_ rfl
  simp only [Tryd.ntmps18, List.size_toArray, List.length_cons, List.length_nil, Nat.reduceAdd, Nat.reduceSub, Array.replicate_succ, Array.replicate_zero, List.push_toArray, List.append_toArray, List.nil_append, List.cons_append]
  have hb3 : Below w.heap.size w ((w.alloc (.cells #[.int .i64 most] 3)).alloc (.cells #[.slice none 0 0] 22)) :=
    ((Below.refl _ w).alloc (Nat.le_refl _) _).alloc (by simp) _
  have x1 := (Boxed.new w 3 (.int .i64 most)).alloc (.cells #[.slice none 0 0] 22)
  have x2 := Boxed.new (w.alloc (.cells #[.int .i64 most] 3)) 22 (.slice none 0 0)
  simp only [World.size_alloc] at x1 x2
  obtain ⟨W, hW⟩ : ∃ W, W = (w.alloc (.cells #[.int .i64 most] 3)).alloc (.cells #[.slice none 0 0] 22) := ⟨_, rfl⟩
  rw [← hW] at hb3 x1 x2
  have HW := Lib.hid hW
  clear hW
  gi_wp2
  refine ⟨trivial, ?_⟩
  rw [← HW.out]
  have hWs : W.heap.size = w.heap.size + 2 := by rw [HW.out]; simp
  have hgF : gF < w.heap.size := hF.lt
  have hgW : gW < w.heap.size := hWd.lt
  have qE := hE.lt
  have FW : Blk W gF 66 (flt gf N gW L) := hF.below hb3 hgF
  have WW : Blk W gW 70 (nus .u64 (wrds M L)).toArray := hWd.below hb3 hgW
  have EW : Env W := hE.below hb3 qE
  clear HW
  refine (callsIn_wide.2 (ones_fn (some ⟨gF, 0, none⟩) W)).mono ?_
  rintro e W0 ⟨rfl, h1, h5⟩
  have hq := eql_fnN
  rw [hWs] at h1 ⊢
  gi_wp2_with fail
  have hW0 := h5.size
  have hBs := h1.lt
  have hwW0 : Below w.heap.size w W0 := hb3.trans (h5.mono (by omega))
  have F0 : Blk W0 gF 66 (flt gf N gW L) := FW.below h5 FW.lt
  have D0 : Blk W0 gW 70 (nus .u64 (wrds M L)).toArray := WW.below h5 WW.lt
  have E0 : Env W0 := EW.below h5 EW.lt
  have g0 : GotN w.heap.size W0.heap.size most w [] W0 :=
    ⟨⟨_, (h5.block _ (by omega)).trans x2, World.ownsRow_nil _ _ _ _, trivial⟩, (h5.block _ (by omega)).trans x1, fun h => by simpa using h, Nat.le_refl _, hwW0⟩
  refine wpIn_rangeFunc_ownH rfl (by omega) (gf := 40) (lb := #[.pointer (some ⟨w.heap.size + 2, 0, none⟩)]) rfl trivial (enters_of Tryd.func40 (by kernel_rfl) rfl)
    (ito_stops 2 (by omega) (w.heap.size + 2) gf gF gW N L M hL2 W0 h1 E0 F0 D0) (fun h k => Kept.trans h k) (kept_b (fun k hk => by rcases hk with rfl | rfl | rfl | rfl <;> omega)) (Below.refl _ _) (fun _ => rfl)
    (GotN w.heap.size W0.heap.size most w)
    (fun c l W' => c = .exit 0 ∧ ∃ pre x, l = pre ++ [x] ∧ GotN w.heap.size W0.heap.size most w pre W' ∧ (pre.length : Int) = most)
    (GotN.own _ _ _ _ _ (Nat.le_refl _) (by omega))
    (fun c s A B row hs hg hr => by
      obtain ⟨e1, pre, x, e2, e3, e4⟩ := hs
      exact ⟨e1, pre, x, e2, GotN.own _ _ W0.heap.size _ _ (Nat.le_refl _) (by omega) pre A B row e3 hg hr, e4⟩)
    g0
    (fun x a' W' => a' = { tmps := #[.pointer (some ⟨gF, 0, none⟩), .int .i64 most, undef, .pointer (some ⟨w.heap.size, 0, none⟩), .slice none 0 0, .pointer (some ⟨w.heap.size + 1, 0, none⟩), .func (.func 40) #[] #[.pointer (some ⟨w.heap.size + 2, 0, none⟩)], .int .i64 (x : Int), .pointer (some ⟨gF, 0, none⟩), .func (.func 40) #[] #[.pointer (some ⟨w.heap.size + 2, 0, none⟩)], .func (.func 40) #[] #[.pointer (some ⟨w.heap.size + 2, 0, none⟩)], .bool false, .func (.func 40) #[] #[.pointer (some ⟨w.heap.size + 2, 0, none⟩)], .int .i64 (x : Int), undef, undef, undef, undef, undef, undef, undef, undef, undef], defers := [] })
    (fun x a' _ A B row hs hg hr => hs)
    ?assign ?body ?done ?stop
  case assign =>
    intro l pre x W' K hI hK
    clear hb3 x1 x2 h1 h5 hwW0 g0 hq FW WW EW
    gi_wp2
    exact hK _ _ (KeepsFrom.refl _ _) (Kept.refl _ _) hI rfl
  case body =>
    rintro l pre x a' W' hwl hrec ⟨⟨v1, bx1, r1, _⟩, bxm, hle, hhi, hB⟩ rfl hlt
    have hpl : pre.length ≤ 65536 := by omega
    have HRest := Lib.hid (And.intro hb3 (And.intro x1 (And.intro x2 (And.intro h1 (And.intro h5 (And.intro hwW0 g0))))))
    have HRec := Lib.hid hrec
    clear hb3 x1 x2 h1 h5 hwW0 g0 hq hrec FW WW EW
    obtain ⟨a1, k1, rfl⟩ := row_shape r1
    have c1 := bx1.cell
    have cm := bxm.cell
    by_cases hm : (pre.length : Int) = most
    · have hmq : (((pre.length : Nat) : Int) == most) = true := by rw [beq_iff_eq]; exact hm
      have HM := Lib.hid hm
      have HLt := Lib.hid hlt
      have HLe := Lib.hid hle
      clear hm hlt hle
      gi_wp2
      refine ⟨KeepsFrom.refl _ _, rfl, pre, x, rfl, ⟨⟨_, bx1, r1, trivial⟩, bxm, HLe.out, hhi, hB⟩, HM.out⟩
    · have hmq : (((pre.length : Nat) : Int) == most) = false := by rw [beq_eq_false_iff_ne]; exact hm
      have HM := Lib.hid hm
      have HLt := Lib.hid hlt
      have HLe := Lib.hid hle
      clear hm hlt hle
      gi_wp2_with (gi_at_builtin; refine wpListIn_append_own _ rfl _ _ 22 rfl W0.heap.size 3 i0 _ 1 8 Tryd.underlying22 hi hz0 hz1 hz2 rfl (by decide) _ _ _ rfl (r1.alloc _) ⟨W'.heap.size, 0, none⟩ 1 1 [.int .i64 (x : Int)] rfl rfl (cell_one_newN _ _ _) (one_oneN _) (by unfold maxLen; omega) (by omega) (by rw [World.size_alloc]; omega) ?_; intro v' w1 hown' hgrow _; obtain ⟨g', cap', rfl⟩ := ownsRow_succ hown'; obtain ⟨hv1, hv2, hr2, hk2, hm2, hb2⟩ := box_app1 bx1 (by decide) r1 hhi (show w.heap.size ≤ w.heap.size + 1 by omega) (by omega) hown' hgrow; have hc1 := hv1.cell; have hf1 := hv1.frozen)
      have hmo := HM.out
      have hlo := HLe.out
      have e2 : nus .i64 (pre ++ [x]) = nus .i64 pre ++ [.int .i64 (x : Int)] := by simp [nus]
      refine ⟨hk2.from _, ⟨hm2.1, fun q hq => hm2.2 q (by rcases hq with rfl | rfl | rfl | rfl <;> omega)⟩, ⟨⟨_, hv2, by rw [List.length_append, e2]; exact hr2, trivial⟩, ((bxm.alloc _).kept hgrow (fun e => by have := (r1.lt _ e.symm).1; omega)).other (by omega) _, fun h => ?_, Nat.le_trans hhi hk2.size, hB.trans (hb2.mono (Nat.le_refl _))⟩⟩
      have := hlo h
      rw [List.length_append, List.length_singleton]; push_cast; omega
  case done =>
    rintro D ys Wn hD hys ⟨⟨v1, bx1, r1, _⟩, bxm, hle, hhi, hB⟩ hK
    have c1 := bx1.cell
    have HWD : Hid (cutN (bitsL M (64 * L)) most = ys) := by subst hys; exact cutN_done _ _ hle
    have HR1 := Lib.hid r1
    clear hys r1 hle hb3 x1 x2 h1 h5 hBs hwW0 g0 hq FW WW EW
    gi_wp2
    refine ⟨by simp, .inl ⟨_, _, rfl, run_takeDeferred hK, ?_⟩⟩
    refine ⟨_, results_tmp rfl _ _ _, v1, rfl, ?_, hB.trans (belowK_b (w := w) (Nat.le_refl _) Wn D _ _ (by omega) hK rfl rfl)⟩
    rw [HWD.out]; exact own_low2 (by omega) (ownsRow_putObj HR1.out _ hK rfl)
  case stop =>
    rintro D c l Wn hD ⟨k, hk, hl⟩ ⟨rfl, pre, x, e, ⟨⟨v1, bx1, r1, _⟩, bxm, hle, hhi, hB⟩, hm⟩ hK
    have c1 := bx1.cell
    have HWD : Hid (cutN (bitsL M (64 * L)) most = pre) := cutN_stop _ pre most x k (by rw [← e, hl]) hm
    have HR1 := Lib.hid r1
    clear hl e hm r1 hle hb3 x1 x2 h1 h5 hBs hwW0 g0 hq FW WW EW
    gi_wp2
    refine ⟨by simp, .inl ⟨_, _, rfl, run_takeDeferred hK, ?_⟩⟩
    refine ⟨_, results_tmp rfl _ _ _, v1, rfl, ?_, hB.trans (belowK_b (w := w) (Nat.le_refl _) Wn D _ _ (by omega) hK rfl rfl)⟩
    rw [HWD.out]; exact own_low2 (by omega) (ownsRow_putObj HR1.out _ hK rfl)
end Go.Proofs.YtcgaibkpdihncaaDoor
