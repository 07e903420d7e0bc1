/- Texts that the walks of this seat lean on, put together. -/
import Derived.Laws.CopyOwn
import Derived.Deep.WholeRow
import Derived.BigQuiet
import Derived.Deep.QuietTactic
import Derived.Shelf.Abstract
import Derived.Shelf.RegionOpen
import Derived.LoopIn
import Derived.BigFrame
import Derived.RangeFuncBound
import Derived.RangeFuncBox
import Derived.RangeFuncCalls
import Derived.RangeFuncLeaves
import Derived.RangeFuncNested
import Derived.RangeFuncRecord
import Derived.Deep.CutBlock
import Derived.Deep.DeepCutAuto
import Derived.LoopTactic
import Derived.Handy
import Derived.Test.YthldpnifodbheaaTk
import Derived.Test.YthldpnifodbheaaTl
import Derived.Test.YthldpnifodbheaaM18
import Derived.Test.YthldpnifodbheaaM23
namespace Go.Proofs.Ythldpnifodbheaa
open Go.RowKit Go.Shelf
attribute [local go_sem] Oper.semAt_some
theorem it_some {α : Type} (c : Nat → Option α) (n k : Nat) (h : k < n) (v : α) (hv : c k = some v) : itF c 0 (k + 1) = itF c 0 k ++ [(k, v)] ∧ (itF c 0 k).length < (itF c 0 n).length ∧ itF c 0 (k + 1) = (itF c 0 n).take ((itF c 0 k).length + 1) := by
  have e1 : itF c 0 (k + 1) = itF c 0 k ++ [(k, v)] := by rw [itF_last, Nat.zero_add, hv]; rfl
  have e2 := itF_at c n k h
  rw [hv] at e2
  have e3 : itF c 0 n = itF c 0 (k + 1) ++ itF c (k + 1) (n - k - 1) := by rw [e2, e1, List.append_assoc]; rfl
  refine ⟨e1, by rw [e2]; simp, ?_⟩
  rw [e3, show (itF c 0 k).length + 1 = (itF c 0 (k + 1)).length by rw [e1]; simp, List.take_left]
theorem it_none {α : Type} (c : Nat → Option α) (k : Nat) (hv : c k = none) : itF c 0 (k + 1) = itF c 0 k := by
  rw [itF_last, Nat.zero_add, hv]; simp
def pcG {α : Type} (sz : Nat) (x : Nat × α) : Array Value := plA ((x.1 / sz : Nat) : Int) ((x.1 % sz : Nat) : Int)
theorem pcG_at {α : Type} (sz s i : Nat) (hi : i < sz) (v : α) : pcG sz (s * sz + i, v) = plA (s : Int) (i : Int) := by
  unfold pcG; simp only [plc_div sz s i hi, plc_mod sz s i hi]
theorem GS.load {α : Type} {tG tR tC : TypeId} {enc : Option α → List Value} {B st sz : Nat} {c : Nat → Option α} {W : World} (h : GS tG tR tC enc B st sz c W) (m : Nat) (he : ∀ o, (enc o).length = m) (s i : Nat) (hs : s < st) (hi : i < sz) (d : TypeDesc)
    (hu : Try.prog.underlying tC = some d) (hd : d.isRow = true) (hi2 : (Try.prog.info? tC).map (·.size) = some m) : (loadVar tC ⟨B + 2 + s, i * m, none⟩).run Try.prog W = .ok (.agg (enc (c (s * sz + i))).toArray) W :=
  run_loadVar_mid (P := Try.prog) W (B + 2 + s) (i * m) tC (enc (c (s * sz + i))) d (fun j v hj => by
    have hj2 : j < m := by have := (List.getElem?_eq_some_iff.1 hj).1; rw [he] at this; exact this
    rw [h.cellAt m he s i j hs hi hj2]; exact hj) hu hd (by rw [he]; exact hi2)
def SKG (Bf B st : Nat) (k : Nat) : Prop := k = Bf ∨ (B ≤ k ∧ k < B + 2 + st)
theorem GS.keptS {α : Type} {tG tR tC : TypeId} {enc : Option α → List Value} {Bf B st sz : Nat} {c : Nat → Option α} {W W' : World} (h : GS tG tR tC enc B st sz c W) (hk : Kept (SKG Bf B st) W W') : GS tG tR tC enc B st sz c W' :=
  h.kept fun k h1 h2 => hk.2 k (.inr ⟨h1, h2⟩)
theorem zero130 (W : World) : (zeroValue 130).run Try.prog W = .ok (.agg (encT none).toArray) W := by kernel_rfl
set_option maxRecDepth 100000 in
set_option maxHeartbeats 1000000 in
theorem allT_fn (p : Option Addr) (w : World) :
    Calls Try.prog 41 #[.pointer p] w fun e w' => e = .returned (.func (.func 64) #[] #[.pointer (some ⟨w.heap.size, 0, none⟩)]) ∧ Boxed w' w.heap.size 78 (.pointer p) ∧ Below w.heap.size w w' := by
  have B1 := lh (Boxed.new w 78 (.pointer p))
  have K := lh ((Below.refl w.heap.size w).alloc (Nat.le_refl _) (.cells #[.pointer p] 78))
  go_enter Try.func41, Try.ntmps41
  go_wp2
  go_ret
  exact ⟨rfl, B1.out, K.out⟩
set_option maxRecDepth 100000 in
set_option maxHeartbeats 4000000 in
theorem itT_in (n : Nat) (hn : 1 ≤ n) (l Bf B st sz : Nat) (c : Nat → Option Se) (J Jx : List (Nat × Se) → World → Prop)
    (W : World) (hJ : AbidesFrom W.heap.size J)
    (hY : ∀ pre x W, J pre W → pre.length < (itF c 0 (st * sz)).length → x.1 < st * sz → c x.1 = some x.2 → YieldAt Fence.wide (n - 1) Try.prog l #[.agg (pcG sz x), .agg x.2.cs] W fun e W' =>
      (e = .returned (.bool true) ∧ J (pre ++ [x]) W' ∧ Kept (SKG Bf B st) W W') ∨ (e = .returned (.bool false) ∧ Jx (pre ++ [x]) W'))
    (hBf : Boxed W Bf 78 (.pointer (some ⟨B + 1, 0, none⟩))) (hG : GdT B st sz c W) (h0 : J [] W) :
    CallsIn Fence.wide n Try.prog 64 #[.func (.yield l) #[] #[], .pointer (some ⟨Bf, 0, none⟩)] W fun e W' => (∃ v, e = .returned v) ∧
      ((∃ ys, ys = itF c 0 (st * sz) ∧ J ys W') ∨ (∃ pre, (∃ k, k ≤ (itF c 0 (st * sz)).length ∧ pre = (itF c 0 (st * sz)).take k) ∧ Jx pre W')) := by
  have HY := lh hY
  have HJ := lh hJ
  have HBF := lh hBf
  have HG := lh hG
  have HS : Hid (∀ j, SKG Bf B st j → j < W.heap.size) := by
    show ∀ j, SKG Bf B st j → j < W.heap.size
    intro j hj
    have := hG.lt
    have := hBf.lt
    rcases hj with rfl | ⟨h1, h2⟩ <;> omega
  have cBf := hBf.cell
  have cG := (hG.G.cell 0).trans (grC_get B st (itF c 0 (st * sz)).length).1
  have hst := hG.s2
  have hsz := hG.z2
  have HZ1 := lh hG.z1
  have h0' := lh h0
  clear hY hJ hBf hG h0
  refine callsIn_of_wp Try.func64 rfl trivial ?_ rfl
  simp only [Try.ntmps64, List.size_toArray, List.length_cons, List.length_nil, Nat.reduceAdd, Nat.reduceSub, Array.replicate_succ, Array.replicate_zero, List.push_toArray, List.append_toArray, List.nil_append, List.cons_append]
  have hq := eqgT_some ⟨B + 1, 0, none⟩
  gi_wp2
  gi_loopw [14] (fun i wr => ∃ s : Nat, s ≤ st ∧ i = .int .i64 (s : Int) ∧ Hid (J (itF c 0 (s * sz)) wr) ∧ Hid (Kept (SKG Bf B st) W wr)) (fun i _ => st - (intOf i).toNat)
  case atStart => exact ⟨0, Nat.zero_le _, rfl, by rw [Nat.zero_mul]; exact h0', lh (Kept.refl _ _)⟩
  case round =>
    obtain ⟨s, hs, rfl, HJr, HKr⟩ := hrel
    clear h0'
    by_cases hlt : s < st
    · have d8 : decide ((s : Int) < (st : Int)) = true := decide_eq_true (by omega)
      have d9 : decide (s < st) = true := decide_eq_true (by omega)
      have hb2 : 0 ≤ (s : Int) ∧ (s : Int) < (st : Int) := by omega
      have cR := ((HG.out.keptS HKr.out).R.cell s).trans (hdr_get B sz st s hlt)
      clear cBf cG
      gi_wp2
      gi_loopw [21] (fun i wr => ∃ q : Nat, q ≤ sz ∧ i = .int .i64 (q : Int) ∧ Hid (J (itF c 0 (s * sz + q)) wr) ∧ Hid (Kept (SKG Bf B st) W wr)) (fun i _ => sz - (intOf i).toNat)
      case atStart => exact ⟨0, Nat.zero_le _, rfl, HJr, HKr⟩
      case round =>
        obtain ⟨q, hq2, rfl, HJq, HKq⟩ := hrel
        clear HJr HKr cR
        by_cases hl2 : q < sz
        · have d10 : decide ((q : Int) < (sz : Int)) = true := decide_eq_true (by omega)
          have d11 : decide (q < sz) = true := decide_eq_true (by omega)
          have hb3 : 0 ≤ (q : Int) ∧ (q : Int) < (sz : Int) := by omega
          have w6 : IntKind.i64.wrap ((q : Int) + 1) = ((q + 1 : Nat) : Int) := by rw [IntKind.wrap_i64]; omega
          have hGq := HG.out.keptS HKq.out
          have LD := hGq.load 42 encT_len s q hlt hl2 _ Try.underlying130 rfl i130
          have HKN := lh (num_lt (sz := sz) hlt hl2)
          have HPC := lh (fun v : Se => pcG_at sz s q hl2 v)
          obtain ⟨k, hk⟩ : ∃ k, k = s * sz + q := ⟨_, rfl⟩
          have HK1 := lh (show s * sz + (q + 1) = k + 1 by rw [hk, Nat.add_assoc])
          rw [← hk] at HJq LD HKN HPC
          have hszq : ∀ j, SKG Bf B st j → j < W.heap.size := HS.out
          have HSq : Hid (∀ j, SKG Bf B st j → j < wr.heap.size) := fun j hj => Nat.lt_of_lt_of_le (HS.out j hj) HKq.out.1
          clear hGq hk hszq
          have ZN := zero130
          obtain ⟨z0, hz0⟩ : ∃ z, z = (encT none).toArray := ⟨_, rfl⟩
          have zs : z0.size = 42 := by rw [hz0, List.size_toArray, encT_len]
          have za : z0.all (·.oneCell') = true := by rw [hz0]; exact encT_all none
          have zc : z0[0]? = some (.bool false) := by rw [hz0]; rfl
          rw [← hz0] at ZN
          cases hc : c k with
          | none =>
            have HNX := lh (it_none c k hc)
            rw [hc, ← hz0] at LD
            have L1 := lh LD
            have st1 := run_storeCells_new (P := Try.prog) wr 130 z0 z0 (by rw [zs]; exact i130) rfl za
            have c0 := ((Blk.new wr 130 z0).cell 0).trans zc
            clear LD hc hz0 za zc
            have hal := (Below.refl wr.heap.size wr).alloc (Nat.le_refl _) (.cells z0 130)
            have HJ2 := lh (HJ.out _ _ _ none HJq.out (grown_of_below hal) (fun r e => by cases e))
            have HK2 := lh (HKq.out.trans (Kept.below hal HSq.out))
            clear hal HJq HKq HSq
            gi_wp2_with ((with_reducible refine wpListIn_load_want (op := ⟨some 25, .load 130 (.tmp 24), _, _, _, _⟩) ?wg1 130 (.tmp 24) ?wo1 ⟨B + 2 + s, q * 42, none⟩ ?wx1 (.agg z0) L1.out ?_); (case wg1 => rfl); (case wo1 => rfl); (case wx1 => rfl))
            refine ⟨fun f hf => (by cases hf), ?_⟩
            gi_wp2
            go_roundw
            case rel => exact ⟨q + 1, hl2, by go_num, by rw [HK1.out, HNX.out]; exact HJ2, HK2⟩
            case measure => simp [intOf]; omega
          | some v =>
            obtain ⟨x1, x2, x3⟩ := it_some c (st * sz) k HKN.out v hc
            have HX1 := lh x1
            have HX2 := lh x2
            have HX3 := lh x3
            have HCV := lh hc
            obtain ⟨xc, hxc⟩ : ∃ z, z = (encT (some v)).toArray := ⟨_, rfl⟩
            have xs : xc.size = 42 := by rw [hxc, List.size_toArray, encT_len]
            have xa : xc.all (·.oneCell') = true := by rw [hxc]; exact encT_all _
            have xf : xc[0]? = some (.bool true) := by rw [hxc]; rfl
            have xp : (xc.toList.drop 1).take v.cs.toList.length = v.cs.toList := by rw [hxc, encT_eq, List.toList_toArray, List.drop_succ_cons, List.drop_zero]; exact List.take_length
            rw [hc, ← hxc] at LD
            have L1 := lh LD
            have st1 := run_storeCells_new (P := Try.prog) wr 130 z0 xc (by rw [xs]; exact i130) (by rw [xs, zs]) xa
            have c0 := ((Blk.new wr 130 xc).cell 0).trans xf
            have L2 : (loadVar 84 ⟨wr.heap.size, 1, none⟩).run Try.prog (wr.alloc (.cells xc 130)) = .ok (.agg v.cs) (wr.alloc (.cells xc 130)) := by
              have h := run_part_load (P := Try.prog) 84 1 v.cs.toList _ (Blk.new wr 130 xc) xp Try.underlying84 rfl (by rw [Array.length_toList, v.size]; exact i84)
              rwa [Array.toArray_toList] at h
            replace L2 := lh L2
            clear LD hc x1 x2 x3 hz0 za zc hxc xa xf xp
            have hal := (Below.refl wr.heap.size wr).alloc (Nat.le_refl _) (.cells xc 130)
            obtain ⟨fn, tmps, assign, body, hy, hR⟩ := HY.out _ (k, v) _ (HJ.out _ _ _ none HJq.out (grown_of_below hal) (fun r e => by cases e)) HX2.out HKN.out HCV.out
            have HK2 := lh (HKq.out.trans (Kept.below hal HSq.out))
            rw [HPC.out] at hy
            unfold plA at hy
            clear hal HJq HKq HSq
            gi_wp2_with (first | ((with_reducible refine wpListIn_load_want (op := ⟨some 25, .load 130 (.tmp 24), _, _, _, _⟩) ?wg2 130 (.tmp 24) ?wo2 ⟨B + 2 + s, q * 42, none⟩ ?wx2 (.agg xc) L1.out ?_); (case wg2 => rfl); (case wo2 => rfl); (case wx2 => rfl)) | ((with_reducible refine wpListIn_load_want (op := ⟨some 34, .load 84 (.tmp 33), _, _, _, _⟩) ?wg3 84 (.tmp 33) ?wo3 ⟨wr.heap.size, 1, none⟩ ?wx3 (.agg v.cs) L2.out ?_); (case wg3 => rfl); (case wo3 => rfl); (case wx3 => rfl)))
            refine hR.mono ?_
            rintro e W3 (⟨rfl, hJ3, hk3⟩ | ⟨rfl, hJx3⟩)
            · have HJ3 := lh hJ3
              have HK3 := lh (HK2.out.trans hk3)
              clear hJ3 hk3 hR hy HK2 L1
              gi_wp2
              go_roundw
              case rel => exact ⟨q + 1, hl2, by go_num, by rw [HK1.out, HX1.out]; exact HJ3, HK3⟩
              case measure => simp [intOf]; omega
            · have HJ3 := lh hJx3
              clear hJx3 hR hy HK2 L1
              gi_wp2
              refine bodyPost_ret (results_none rfl _ _ _) rfl ?_
              exact ⟨⟨_, rfl⟩, .inr ⟨_, ⟨(itF c 0 k).length + 1, HX2.out, by rw [← HX3.out, HX1.out]⟩, HJ3.out⟩⟩
        · obtain rfl : q = sz := by omega
          have d10 : decide (((q : Nat) : Int) < (q : Int)) = false := decide_eq_false (by omega)
          have d11 : decide (q < q) = false := decide_eq_false (by omega)
          have w6 : IntKind.i64.wrap ((s : Int) + 1) = ((s + 1 : Nat) : Int) := by rw [IntKind.wrap_i64]; omega
          gi_wp2
          go_roundw
          case rel => exact ⟨s + 1, hlt, by go_num, by rw [Nat.succ_mul]; exact HJq, HKq⟩
          case measure => simp [intOf]; omega
    · obtain rfl : s = st := by omega
      have d8 : decide (((s : Nat) : Int) < (s : Int)) = false := decide_eq_false (by omega)
      have d9 : decide (s < s) = false := decide_eq_false (by omega)
      gi_wp2
      refine bodyPost_end (results_none rfl _ _ _) rfl ?_
      exact ⟨⟨_, rfl⟩, .inl ⟨_, rfl, HJr.out⟩⟩
theorem itT_stops (n : Nat) (hn : 1 ≤ n) (Bf B st sz : Nat) (c : Nat → Option Se) (w : World)
    (hBf : Boxed w Bf 78 (.pointer (some ⟨B + 1, 0, none⟩))) (hG : GdT B st sz c w) :
    SeqStopsK Fence.wide n Try.prog 64 #[.pointer (some ⟨Bf, 0, none⟩)] (fun x : Nat × Se => #[.agg (pcG sz x), .agg x.2.cs]) (Kept (SKG Bf B st)) (fun ys => ys = itF c 0 (st * sz)) (fun pre => ∃ k, k ≤ (itF c 0 (st * sz)).length ∧ pre = (itF c 0 (st * sz)).take k) (itF c 0 (st * sz)).length w := fun l J Jx W hWW hJ _ hY h0 =>
  itT_in n hn l Bf B st sz c J Jx W hJ (fun pre x W1 h1 h2 _ _ => hY pre x W1 h1 h2) ((hWW.block Bf hBf.lt).trans hBf) (hG.kept fun k h1 h2 => hWW.block k (by have := hG.lt; omega)) h0
end Go.Proofs.Ythldpnifodbheaa
