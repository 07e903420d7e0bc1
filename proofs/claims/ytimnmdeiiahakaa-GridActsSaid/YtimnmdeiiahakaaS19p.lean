/- Grid.All: the function value that it answers; the walk over it as a contract for range loops. -/
import Derived.Test.YtimnmdeiiahakaaS19e
import Derived.Laws.CopyOwn
import Derived.BigQuiet
import Derived.Deep.QuietTactic
import Derived.Shelf.Abstract
import Derived.Shelf.RegionOpen
import Derived.LoopIn
import Derived.BigFrame
import Derived.RangeFuncBound
import Derived.RangeFuncBox
import Derived.RangeFuncCalls
import Derived.RangeFuncLeaves
import Derived.RangeFuncNested
import Derived.RangeFuncRecord
import Derived.Deep.CutBlock
import Derived.Deep.DeepCutAuto
import Derived.LoopTactic
import Derived.Handy
namespace Go.Proofs.Ytimnmdeiiahakaa
open Go.RowKit Go.Shelf
attribute [local go_sem] Oper.semAt_some

/-- What S names stays. -/
def Kept (S : Nat → Prop) (A B : World) : Prop := A.heap.size ≤ B.heap.size ∧ ∀ k, S k → B.heap[k]? = A.heap[k]?
theorem Kept.refl (S : Nat → Prop) (A : World) : Kept S A A := ⟨Nat.le_refl _, fun _ _ => rfl⟩
theorem Kept.trans {S : Nat → Prop} {A B C : World} (h : Kept S A B) (k : Kept S B C) : Kept S A C := ⟨Nat.le_trans h.1 k.1, fun i hi => (k.2 i hi).trans (h.2 i hi)⟩
theorem Kept.below {S : Nat → Prop} {A B : World} {n : Nat} (h : Below n A B) (hS : ∀ k, S k → k < n) : Kept S A B := ⟨h.size, fun k hk => h.block k (hS k hk)⟩
theorem kept_b {S : Nat → Prop} {w : World} (hS : ∀ k, S k → k < w.heap.size) (W : World) (l : Nat) (o o' : Obj) (hl : w.heap.size ≤ l) (h : W.heap[l]? = some o) (hc : o.isCells = false) (hw : o.isWalk = false) : Kept S W (W.putObj l o') :=
  Kept.below (belowK_b (Nat.le_refl _) W l o o' hl h hc hw) hS
theorem wpListIn_load_want {F : Fence} {n : Nat} {P : Program} {ops : Array Oper} {rest : List Oper} {op : Oper} {a : Act} {w : World} {Q : Exit → Act → World → Prop} (hw : Region.wanted op (yielded ops a.tmps) = true) (ty : TypeId) (x : Operand) (ho : op.op = .load ty x)
    (p : Addr) (hx : a.eval x = .pointer (some p)) (v : Value) (hl : (loadVar ty p).run P w = .ok v w) (h : wpListIn F n P ops Q rest (a.put op.dst v) w) : wpListIn F n P ops Q (op :: rest) a w :=
  BigFrame.wpListIn_want hw fun K hK => by
    refine ⟨fun f hf => ?_, ?_⟩
    · simp [Oper.about, ho] at hf
    · rw [Oper.semAt_eq _ _ _ (by simp [ho]), exec_load ty x ho p hx v hl]
      exact hK _ _ h
/-- A cell that has something, and one that has not, on the way through all. -/
theorem it_some {α : Type} (c : Nat → Option α) (n k : Nat) (h : k < n) (v : α) (hv : c k = some v) : itF c 0 (k + 1) = itF c 0 k ++ [(k, v)] ∧ (itF c 0 k).length < (itF c 0 n).length ∧ itF c 0 (k + 1) = (itF c 0 n).take ((itF c 0 k).length + 1) := by
  have e1 : itF c 0 (k + 1) = itF c 0 k ++ [(k, v)] := by rw [itF_last, Nat.zero_add, hv]; rfl
  have e2 := itF_at c n k h
  rw [hv] at e2
  have e3 : itF c 0 n = itF c 0 (k + 1) ++ itF c (k + 1) (n - k - 1) := by rw [e2, e1, List.append_assoc]; rfl
  refine ⟨e1, by rw [e2]; simp, ?_⟩
  rw [e3, show (itF c 0 k).length + 1 = (itF c 0 (k + 1)).length by rw [e1]; simp, List.take_left]
theorem it_none {α : Type} (c : Nat → Option α) (k : Nat) (hv : c k = none) : itF c 0 (k + 1) = itF c 0 k := by
  rw [itF_last, Nat.zero_add, hv]; simp
/-- A place as the walk tells it. -/
def pcG {α : Type} (sz : Nat) (x : Nat × α) : Array Value := plA ((x.1 / sz : Nat) : Int) ((x.1 % sz : Nat) : Int)
theorem pcG_at {α : Type} (sz s i : Nat) (hi : i < sz) (v : α) : pcG sz (s * sz + i, v) = plA (s : Int) (i : Int) := by
  unfold pcG; simp only [plc_div sz s i hi, plc_mod sz s i hi]
theorem GS.load {α : Type} {tG tR tC : TypeId} {enc : Option α → List Value} {B st sz : Nat} {c : Nat → Option α} {W : World} (h : GS tG tR tC enc B st sz c W) (m : Nat) (he : ∀ o, (enc o).length = m) (s i : Nat) (hs : s < st) (hi : i < sz) (d : TypeDesc)
    (hu : Try.prog.underlying tC = some d) (hd : d.isRow = true) (hi2 : (Try.prog.info? tC).map (·.size) = some m) : (loadVar tC ⟨B + 2 + s, i * m, none⟩).run Try.prog W = .ok (.agg (enc (c (s * sz + i))).toArray) W :=
  run_loadVar_mid (P := Try.prog) W (B + 2 + s) (i * m) tC (enc (c (s * sz + i))) d (fun j v hj => by
    have hj2 : j < m := by have := (List.getElem?_eq_some_iff.1 hj).1; rw [he] at this; exact this
    rw [h.cellAt m he s i j hs hi hj2]; exact hj) hu hd (by rw [he]; exact hi2)
/-- What must stay while the walk goes. -/
def SKG (Bf B st : Nat) (k : Nat) : Prop := k = Bf ∨ (B ≤ k ∧ k < B + 2 + st)
theorem GS.keptS {α : Type} {tG tR tC : TypeId} {enc : Option α → List Value} {Bf B st sz : Nat} {c : Nat → Option α} {W W' : World} (h : GS tG tR tC enc B st sz c W) (hk : Kept (SKG Bf B st) W W') : GS tG tR tC enc B st sz c W' :=
  h.kept fun k h1 h2 => hk.2 k (.inr ⟨h1, h2⟩)

set_option maxRecDepth 100000 in
set_option maxHeartbeats 1000000 in
/-- Grid.All. -/
theorem allI_fn (p : Option Addr) (w : World) :
    Calls Try.prog 30 #[.pointer p] w fun e w' => e = .returned (.func (.func 34) #[] #[.pointer (some ⟨w.heap.size, 0, none⟩)]) ∧ Boxed w' w.heap.size 24 (.pointer p) ∧ Below w.heap.size w w' := by
  have B1 := Lib.hid (Boxed.new w 24 (.pointer p))
  have K := Lib.hid ((Below.refl w.heap.size w).alloc (Nat.le_refl _) (.cells #[.pointer p] 24))
  go_enter Try.func30, Try.ntmps30
  go_wp2
  go_ret
  exact ⟨rfl, B1.out, K.out⟩

set_option maxRecDepth 100000 in
set_option maxHeartbeats 4000000 in
theorem itI_in (n : Nat) (hn : 1 ≤ n) (l Bf B st sz : Nat) (c : Nat → Option Int) (J Jx : List (Nat × Int) → World → Prop)
    (W : World) (hJ : AbidesFrom W.heap.size J)
    (hY : ∀ pre x W, J pre W → pre.length < (itF c 0 (st * sz)).length → x.1 < st * sz → c x.1 = some x.2 → YieldAt Fence.wide (n - 1) Try.prog l #[.agg (pcG sz x), .int .i64 x.2] W fun e W' =>
      (e = .returned (.bool true) ∧ J (pre ++ [x]) W' ∧ Kept (SKG Bf B st) W W') ∨ (e = .returned (.bool false) ∧ Jx (pre ++ [x]) W'))
    (hBf : Boxed W Bf 24 (.pointer (some ⟨B + 1, 0, none⟩))) (hG : GdI B st sz c W) (h0 : J [] W) :
    CallsIn Fence.wide n Try.prog 34 #[.func (.yield l) #[] #[], .pointer (some ⟨Bf, 0, none⟩)] W fun e W' => (∃ v, e = .returned v) ∧
      ((∃ ys, ys = itF c 0 (st * sz) ∧ J ys W') ∨ (∃ pre, (∃ k, k ≤ (itF c 0 (st * sz)).length ∧ pre = (itF c 0 (st * sz)).take k) ∧ Jx pre W')) := by
  have HY := Lib.hid hY
  have HJ := Lib.hid hJ
  have HBF := Lib.hid hBf
  have HG := Lib.hid hG
  have HS : Hid (∀ j, SKG Bf B st j → j < W.heap.size) := by
    show ∀ j, SKG Bf B st j → j < W.heap.size
    intro j hj
    have := hG.lt
    have := hBf.lt
    rcases hj with rfl | ⟨h1, h2⟩ <;> omega
  have cBf := hBf.cell
  have cG := (hG.G.cell 0).trans (grC_get B st (itF c 0 (st * sz)).length).1
  have hst := hG.s2
  have hsz := hG.z2
  have HZ1 := Lib.hid hG.z1
  have h0' := Lib.hid h0
  clear hY hJ hBf hG h0
  refine callsIn_of_wp Try.func34 rfl trivial ?_ rfl
  simp only [Try.ntmps34, List.size_toArray, List.length_cons, List.length_nil, Nat.reduceAdd, Nat.reduceSub, Array.replicate_succ, Array.replicate_zero, List.push_toArray, List.append_toArray, List.nil_append, List.cons_append]
  have hq := eqgI_some ⟨B + 1, 0, none⟩
  gi_wp2
  gi_loopw [14] (fun i wr => ∃ s : Nat, s ≤ st ∧ i = .int .i64 (s : Int) ∧ Hid (J (itF c 0 (s * sz)) wr) ∧ Hid (Kept (SKG Bf B st) W wr)) (fun i _ => st - (intOf i).toNat)
  case atStart => exact ⟨0, Nat.zero_le _, rfl, by rw [Nat.zero_mul]; exact h0', Lib.hid (Kept.refl _ _)⟩
  case round =>
    obtain ⟨s, hs, rfl, HJr, HKr⟩ := hrel
    clear h0'
    by_cases hlt : s < st
    · have d8 : decide ((s : Int) < (st : Int)) = true := decide_eq_true (by omega)
      have d9 : decide (s < st) = true := decide_eq_true (by omega)
      have hb2 : 0 ≤ (s : Int) ∧ (s : Int) < (st : Int) := by omega
      have cR := ((HG.out.keptS HKr.out).R.cell s).trans (hdr_get B sz st s hlt)
      clear cBf cG
      gi_wp2
      gi_loopw [21] (fun i wr => ∃ q : Nat, q ≤ sz ∧ i = .int .i64 (q : Int) ∧ Hid (J (itF c 0 (s * sz + q)) wr) ∧ Hid (Kept (SKG Bf B st) W wr)) (fun i _ => sz - (intOf i).toNat)
      case atStart => exact ⟨0, Nat.zero_le _, rfl, HJr, HKr⟩
      case round =>
        obtain ⟨q, hq2, rfl, HJq, HKq⟩ := hrel
        clear HJr HKr cR
        by_cases hl2 : q < sz
        · have d10 : decide ((q : Int) < (sz : Int)) = true := decide_eq_true (by omega)
          have d11 : decide (q < sz) = true := decide_eq_true (by omega)
          have hb3 : 0 ≤ (q : Int) ∧ (q : Int) < (sz : Int) := by omega
          have w6 : IntKind.i64.wrap ((q : Int) + 1) = ((q + 1 : Nat) : Int) := by rw [IntKind.wrap_i64]; omega
          have hGq := HG.out.keptS HKq.out
          have LD := hGq.load 2 encI_len s q hlt hl2 _ Try.underlying72 rfl i72
          have HKN := Lib.hid (num_lt (sz := sz) hlt hl2)
          have HPC := Lib.hid (fun v : Int => pcG_at sz s q hl2 v)
          obtain ⟨k, hk⟩ : ∃ k, k = s * sz + q := ⟨_, rfl⟩
          have HK1 := Lib.hid (show s * sz + (q + 1) = k + 1 by rw [hk, Nat.add_assoc])
          rw [← hk] at HJq LD HKN HPC
          have hszq : ∀ j, SKG Bf B st j → j < W.heap.size := HS.out
          have HSq : Hid (∀ j, SKG Bf B st j → j < wr.heap.size) := fun j hj => Nat.lt_of_lt_of_le (HS.out j hj) HKq.out.1
          clear hGq hk hszq
          cases hc : c k with
          | none =>
            have HNX := Lib.hid (it_none c k hc)
            rw [hc] at LD
            have L1 := Lib.hid (show (loadVar 72 ⟨B + 2 + s, q * 2, none⟩).run Try.prog wr = .ok (.agg #[.bool false, .int .i64 0]) wr from LD)
            clear LD hc
            have hal := (Below.refl wr.heap.size wr).alloc (Nat.le_refl _) (.cells #[.bool false, .int .i64 0] 72)
            have HJ2 := Lib.hid (HJ.out _ _ _ none HJq.out (grown_of_below hal) (fun r e => by cases e))
            have HK2 := Lib.hid (HKq.out.trans (Kept.below hal HSq.out))
            clear hal HJq HKq HSq
            gi_wp2_with ((with_reducible refine wpListIn_load_want (op := ⟨some 25, .load 72 (.tmp 24), _, _, _, _⟩) ?wg1 72 (.tmp 24) ?wo1 ⟨B + 2 + s, q * 2, none⟩ ?wx1 (.agg #[.bool false, .int .i64 0]) L1.out ?_); (case wg1 => rfl); (case wo1 => rfl); (case wx1 => rfl))
            refine ⟨fun f hf => (by cases hf), ?_⟩
            gi_wp2
            go_roundw
            case rel => exact ⟨q + 1, hl2, by go_num, by rw [HK1.out, HNX.out]; exact HJ2, HK2⟩
            case measure => simp [intOf]; omega
          | some v =>
            obtain ⟨x1, x2, x3⟩ := it_some c (st * sz) k HKN.out v hc
            have HX1 := Lib.hid x1
            have HX2 := Lib.hid x2
            have HX3 := Lib.hid x3
            have HCV := Lib.hid hc
            rw [hc] at LD
            have L1 := Lib.hid (show (loadVar 72 ⟨B + 2 + s, q * 2, none⟩).run Try.prog wr = .ok (.agg #[.bool true, .int .i64 v]) wr from LD)
            clear LD hc x1 x2 x3
            have hal := (Below.refl wr.heap.size wr).alloc (Nat.le_refl _) (.cells #[.bool true, .int .i64 v] 72)
            obtain ⟨fn, tmps, assign, body, hy, hR⟩ := HY.out _ (k, v) _ (HJ.out _ _ _ none HJq.out (grown_of_below hal) (fun r e => by cases e)) HX2.out HKN.out HCV.out
            have HK2 := Lib.hid (HKq.out.trans (Kept.below hal HSq.out))
            rw [HPC.out] at hy
            unfold plA at hy
            clear hal HJq HKq HSq
            gi_wp2_with ((with_reducible refine wpListIn_load_want (op := ⟨some 25, .load 72 (.tmp 24), _, _, _, _⟩) ?wg2 72 (.tmp 24) ?wo2 ⟨B + 2 + s, q * 2, none⟩ ?wx2 (.agg #[.bool true, .int .i64 v]) L1.out ?_); (case wg2 => rfl); (case wo2 => rfl); (case wx2 => rfl))
            refine hR.mono ?_
            rintro e W3 (⟨rfl, hJ3, hk3⟩ | ⟨rfl, hJx3⟩)
            · have HJ3 := Lib.hid hJ3
              have HK3 := Lib.hid (HK2.out.trans hk3)
              clear hJ3 hk3 hR hy HK2 L1
              gi_wp2
              go_roundw
              case rel => exact ⟨q + 1, hl2, by go_num, by rw [HK1.out, HX1.out]; exact HJ3, HK3⟩
              case measure => simp [intOf]; omega
            · have HJ3 := Lib.hid hJx3
              clear hJx3 hR hy HK2 L1
              gi_wp2
              refine bodyPost_ret (results_none rfl _ _ _) rfl ?_
              exact ⟨⟨_, rfl⟩, .inr ⟨_, ⟨(itF c 0 k).length + 1, HX2.out, by rw [← HX3.out, HX1.out]⟩, HJ3.out⟩⟩
        · obtain rfl : q = sz := by omega
          have d10 : decide (((q : Nat) : Int) < (q : Int)) = false := decide_eq_false (by omega)
          have d11 : decide (q < q) = false := decide_eq_false (by omega)
          have w6 : IntKind.i64.wrap ((s : Int) + 1) = ((s + 1 : Nat) : Int) := by rw [IntKind.wrap_i64]; omega
          gi_wp2
          go_roundw
          case rel => exact ⟨s + 1, hlt, by go_num, by rw [Nat.succ_mul]; exact HJq, HKq⟩
          case measure => simp [intOf]; omega
    · obtain rfl : s = st := by omega
      have d8 : decide (((s : Nat) : Int) < (s : Int)) = false := decide_eq_false (by omega)
      have d9 : decide (s < s) = false := decide_eq_false (by omega)
      gi_wp2
      refine bodyPost_end (results_none rfl _ _ _) rfl ?_
      exact ⟨⟨_, rfl⟩, .inl ⟨_, rfl, HJr.out⟩⟩

theorem itI_stops (n : Nat) (hn : 1 ≤ n) (Bf B st sz : Nat) (c : Nat → Option Int) (w : World)
    (hBf : Boxed w Bf 24 (.pointer (some ⟨B + 1, 0, none⟩))) (hG : GdI B st sz c w) :
    SeqStopsK Fence.wide n Try.prog 34 #[.pointer (some ⟨Bf, 0, none⟩)] (fun x : Nat × Int => #[.agg (pcG sz x), .int .i64 x.2]) (Kept (SKG Bf B st)) (fun ys => ys = itF c 0 (st * sz)) (fun pre => ∃ k, k ≤ (itF c 0 (st * sz)).length ∧ pre = (itF c 0 (st * sz)).take k) (itF c 0 (st * sz)).length w := fun l J Jx W hWW hJ _ hY h0 =>
  itI_in n hn l Bf B st sz c J Jx W hJ (fun pre x W1 h1 h2 _ _ => hY pre x W1 h1 h2) ((hWW.block Bf hBf.lt).trans hBf) (hG.kept fun k h1 h2 => hWW.block k (by have := hG.lt; omega)) h0

set_option maxRecDepth 100000 in
set_option maxHeartbeats 1000000 in
/-- Grid.All. -/
theorem allA_fn (p : Option Addr) (w : World) :
    Calls Try.prog 18 #[.pointer p] w fun e w' => e = .returned (.func (.func 32) #[] #[.pointer (some ⟨w.heap.size, 0, none⟩)]) ∧ Boxed w' w.heap.size 43 (.pointer p) ∧ Below w.heap.size w w' := by
  have B1 := Lib.hid (Boxed.new w 43 (.pointer p))
  have K := Lib.hid ((Below.refl w.heap.size w).alloc (Nat.le_refl _) (.cells #[.pointer p] 43))
  go_enter Try.func18, Try.ntmps18
  go_wp2
  go_ret
  exact ⟨rfl, B1.out, K.out⟩

set_option maxRecDepth 100000 in
set_option maxHeartbeats 4000000 in
theorem itA_in (n : Nat) (hn : 1 ≤ n) (l Bf B st sz : Nat) (c : Nat → Option (Int × Int)) (J Jx : List (Nat × (Int × Int)) → World → Prop)
    (W : World) (hJ : AbidesFrom W.heap.size J)
    (hY : ∀ pre x W, J pre W → pre.length < (itF c 0 (st * sz)).length → x.1 < st * sz → c x.1 = some x.2 → YieldAt Fence.wide (n - 1) Try.prog l #[.agg (pcG sz x), .agg #[.int .i64 x.2.1, .int .i64 x.2.2]] W fun e W' =>
      (e = .returned (.bool true) ∧ J (pre ++ [x]) W' ∧ Kept (SKG Bf B st) W W') ∨ (e = .returned (.bool false) ∧ Jx (pre ++ [x]) W'))
    (hBf : Boxed W Bf 43 (.pointer (some ⟨B + 1, 0, none⟩))) (hG : GdA B st sz c W) (h0 : J [] W) :
    CallsIn Fence.wide n Try.prog 32 #[.func (.yield l) #[] #[], .pointer (some ⟨Bf, 0, none⟩)] W fun e W' => (∃ v, e = .returned v) ∧
      ((∃ ys, ys = itF c 0 (st * sz) ∧ J ys W') ∨ (∃ pre, (∃ k, k ≤ (itF c 0 (st * sz)).length ∧ pre = (itF c 0 (st * sz)).take k) ∧ Jx pre W')) := by
  have HY := Lib.hid hY
  have HJ := Lib.hid hJ
  have HBF := Lib.hid hBf
  have HG := Lib.hid hG
  have HS : Hid (∀ j, SKG Bf B st j → j < W.heap.size) := by
    show ∀ j, SKG Bf B st j → j < W.heap.size
    intro j hj
    have := hG.lt
    have := hBf.lt
    rcases hj with rfl | ⟨h1, h2⟩ <;> omega
  have cBf := hBf.cell
  have cG := (hG.G.cell 0).trans (grC_get B st (itF c 0 (st * sz)).length).1
  have hst := hG.s2
  have hsz := hG.z2
  have HZ1 := Lib.hid hG.z1
  have h0' := Lib.hid h0
  clear hY hJ hBf hG h0
  refine callsIn_of_wp Try.func32 rfl trivial ?_ rfl
  simp only [Try.ntmps32, List.size_toArray, List.length_cons, List.length_nil, Nat.reduceAdd, Nat.reduceSub, Array.replicate_succ, Array.replicate_zero, List.push_toArray, List.append_toArray, List.nil_append, List.cons_append]
  have hq := eqgA_some ⟨B + 1, 0, none⟩
  gi_wp2
  gi_loopw [14] (fun i wr => ∃ s : Nat, s ≤ st ∧ i = .int .i64 (s : Int) ∧ Hid (J (itF c 0 (s * sz)) wr) ∧ Hid (Kept (SKG Bf B st) W wr)) (fun i _ => st - (intOf i).toNat)
  case atStart => exact ⟨0, Nat.zero_le _, rfl, by rw [Nat.zero_mul]; exact h0', Lib.hid (Kept.refl _ _)⟩
  case round =>
    obtain ⟨s, hs, rfl, HJr, HKr⟩ := hrel
    clear h0'
    by_cases hlt : s < st
    · have d8 : decide ((s : Int) < (st : Int)) = true := decide_eq_true (by omega)
      have d9 : decide (s < st) = true := decide_eq_true (by omega)
      have hb2 : 0 ≤ (s : Int) ∧ (s : Int) < (st : Int) := by omega
      have cR := ((HG.out.keptS HKr.out).R.cell s).trans (hdr_get B sz st s hlt)
      clear cBf cG
      gi_wp2
      gi_loopw [21] (fun i wr => ∃ q : Nat, q ≤ sz ∧ i = .int .i64 (q : Int) ∧ Hid (J (itF c 0 (s * sz + q)) wr) ∧ Hid (Kept (SKG Bf B st) W wr)) (fun i _ => sz - (intOf i).toNat)
      case atStart => exact ⟨0, Nat.zero_le _, rfl, HJr, HKr⟩
      case round =>
        obtain ⟨q, hq2, rfl, HJq, HKq⟩ := hrel
        clear HJr HKr cR
        by_cases hl2 : q < sz
        · have d10 : decide ((q : Int) < (sz : Int)) = true := decide_eq_true (by omega)
          have d11 : decide (q < sz) = true := decide_eq_true (by omega)
          have hb3 : 0 ≤ (q : Int) ∧ (q : Int) < (sz : Int) := by omega
          have w6 : IntKind.i64.wrap ((q : Int) + 1) = ((q + 1 : Nat) : Int) := by rw [IntKind.wrap_i64]; omega
          have hGq := HG.out.keptS HKq.out
          have LD := hGq.load 3 encA_len s q hlt hl2 _ Try.underlying83 rfl i83
          have HKN := Lib.hid (num_lt (sz := sz) hlt hl2)
          have HPC := Lib.hid (fun v : (Int × Int) => pcG_at sz s q hl2 v)
          obtain ⟨k, hk⟩ : ∃ k, k = s * sz + q := ⟨_, rfl⟩
          have HK1 := Lib.hid (show s * sz + (q + 1) = k + 1 by rw [hk, Nat.add_assoc])
          rw [← hk] at HJq LD HKN HPC
          have hszq : ∀ j, SKG Bf B st j → j < W.heap.size := HS.out
          have HSq : Hid (∀ j, SKG Bf B st j → j < wr.heap.size) := fun j hj => Nat.lt_of_lt_of_le (HS.out j hj) HKq.out.1
          clear hGq hk hszq
          cases hc : c k with
          | none =>
            have HNX := Lib.hid (it_none c k hc)
            rw [hc] at LD
            have L1 := Lib.hid (show (loadVar 83 ⟨B + 2 + s, q * 3, none⟩).run Try.prog wr = .ok (.agg #[.bool false, .int .i64 0, .int .i64 0]) wr from LD)
            clear LD hc
            have hal := (Below.refl wr.heap.size wr).alloc (Nat.le_refl _) (.cells #[.bool false, .int .i64 0, .int .i64 0] 83)
            have HJ2 := Lib.hid (HJ.out _ _ _ none HJq.out (grown_of_below hal) (fun r e => by cases e))
            have HK2 := Lib.hid (HKq.out.trans (Kept.below hal HSq.out))
            clear hal HJq HKq HSq
            gi_wp2_with ((with_reducible refine wpListIn_load_want (op := ⟨some 25, .load 83 (.tmp 24), _, _, _, _⟩) ?wg1 83 (.tmp 24) ?wo1 ⟨B + 2 + s, q * 3, none⟩ ?wx1 (.agg #[.bool false, .int .i64 0, .int .i64 0]) L1.out ?_); (case wg1 => rfl); (case wo1 => rfl); (case wx1 => rfl))
            refine ⟨fun f hf => (by cases hf), ?_⟩
            gi_wp2
            go_roundw
            case rel => exact ⟨q + 1, hl2, by go_num, by rw [HK1.out, HNX.out]; exact HJ2, HK2⟩
            case measure => simp [intOf]; omega
          | some v =>
            obtain ⟨x1, x2, x3⟩ := it_some c (st * sz) k HKN.out v hc
            have HX1 := Lib.hid x1
            have HX2 := Lib.hid x2
            have HX3 := Lib.hid x3
            have HCV := Lib.hid hc
            rw [hc] at LD
            have L1 := Lib.hid (show (loadVar 83 ⟨B + 2 + s, q * 3, none⟩).run Try.prog wr = .ok (.agg #[.bool true, .int .i64 v.1, .int .i64 v.2]) wr from LD)
            clear LD hc x1 x2 x3
            have hal := (Below.refl wr.heap.size wr).alloc (Nat.le_refl _) (.cells #[.bool true, .int .i64 v.1, .int .i64 v.2] 83)
            obtain ⟨fn, tmps, assign, body, hy, hR⟩ := HY.out _ (k, v) _ (HJ.out _ _ _ none HJq.out (grown_of_below hal) (fun r e => by cases e)) HX2.out HKN.out HCV.out
            have HK2 := Lib.hid (HKq.out.trans (Kept.below hal HSq.out))
            rw [HPC.out] at hy
            unfold plA at hy
            clear hal HJq HKq HSq
            gi_wp2_with ((with_reducible refine wpListIn_load_want (op := ⟨some 25, .load 83 (.tmp 24), _, _, _, _⟩) ?wg2 83 (.tmp 24) ?wo2 ⟨B + 2 + s, q * 3, none⟩ ?wx2 (.agg #[.bool true, .int .i64 v.1, .int .i64 v.2]) L1.out ?_); (case wg2 => rfl); (case wo2 => rfl); (case wx2 => rfl))
            refine hR.mono ?_
            rintro e W3 (⟨rfl, hJ3, hk3⟩ | ⟨rfl, hJx3⟩)
            · have HJ3 := Lib.hid hJ3
              have HK3 := Lib.hid (HK2.out.trans hk3)
              clear hJ3 hk3 hR hy HK2 L1
              gi_wp2
              go_roundw
              case rel => exact ⟨q + 1, hl2, by go_num, by rw [HK1.out, HX1.out]; exact HJ3, HK3⟩
              case measure => simp [intOf]; omega
            · have HJ3 := Lib.hid hJx3
              clear hJx3 hR hy HK2 L1
              gi_wp2
              refine bodyPost_ret (results_none rfl _ _ _) rfl ?_
              exact ⟨⟨_, rfl⟩, .inr ⟨_, ⟨(itF c 0 k).length + 1, HX2.out, by rw [← HX3.out, HX1.out]⟩, HJ3.out⟩⟩
        · obtain rfl : q = sz := by omega
          have d10 : decide (((q : Nat) : Int) < (q : Int)) = false := decide_eq_false (by omega)
          have d11 : decide (q < q) = false := decide_eq_false (by omega)
          have w6 : IntKind.i64.wrap ((s : Int) + 1) = ((s + 1 : Nat) : Int) := by rw [IntKind.wrap_i64]; omega
          gi_wp2
          go_roundw
          case rel => exact ⟨s + 1, hlt, by go_num, by rw [Nat.succ_mul]; exact HJq, HKq⟩
          case measure => simp [intOf]; omega
    · obtain rfl : s = st := by omega
      have d8 : decide (((s : Nat) : Int) < (s : Int)) = false := decide_eq_false (by omega)
      have d9 : decide (s < s) = false := decide_eq_false (by omega)
      gi_wp2
      refine bodyPost_end (results_none rfl _ _ _) rfl ?_
      exact ⟨⟨_, rfl⟩, .inl ⟨_, rfl, HJr.out⟩⟩

theorem itA_stops (n : Nat) (hn : 1 ≤ n) (Bf B st sz : Nat) (c : Nat → Option (Int × Int)) (w : World)
    (hBf : Boxed w Bf 43 (.pointer (some ⟨B + 1, 0, none⟩))) (hG : GdA B st sz c w) :
    SeqStopsK Fence.wide n Try.prog 32 #[.pointer (some ⟨Bf, 0, none⟩)] (fun x : Nat × (Int × Int) => #[.agg (pcG sz x), .agg #[.int .i64 x.2.1, .int .i64 x.2.2]]) (Kept (SKG Bf B st)) (fun ys => ys = itF c 0 (st * sz)) (fun pre => ∃ k, k ≤ (itF c 0 (st * sz)).length ∧ pre = (itF c 0 (st * sz)).take k) (itF c 0 (st * sz)).length w := fun l J Jx W hWW hJ _ hY h0 =>
  itA_in n hn l Bf B st sz c J Jx W hJ (fun pre x W1 h1 h2 _ _ => hY pre x W1 h1 h2) ((hWW.block Bf hBf.lt).trans hBf) (hG.kept fun k h1 h2 => hWW.block k (by have := hG.lt; omega)) h0
/-- A full grid of pairs, walked by its places' numbers. -/
def full2 (sz k : Nat) : Option (Int × Int) := some (((k / sz : Nat) : Int), ((k % sz : Nat) : Int))
def fA (sz k : Nat) : Array Value := #[.agg (plA ((k / sz : Nat) : Int) ((k % sz : Nat) : Int)), .agg #[.int .i64 ((k / sz : Nat) : Int), .int .i64 ((k % sz : Nat) : Int)]]
theorem full2_fst (sz a n : Nat) : (itF (full2 sz) a n).map Prod.fst = List.range' a n := by
  unfold full2
  rw [itF_full, List.map_map]
  exact List.map_id _
theorem full2_len (sz a n : Nat) : (itF (full2 sz) a n).length = n := by
  have := congrArg List.length (full2_fst sz a n)
  simpa using this
theorem itF_stops (n : Nat) (hn : 1 ≤ n) (Bf B st sz : Nat) (w : World)
    (hBf : Boxed w Bf 43 (.pointer (some ⟨B + 1, 0, none⟩))) (hG : GdA B st sz (full2 sz) w) :
    SeqStopsK Fence.wide n Try.prog 32 #[.pointer (some ⟨Bf, 0, none⟩)] (fun x : Nat => fA sz (x % (st * sz))) (Kept (SKG Bf B st)) (fun ys => ys = List.range (st * sz)) (fun pre => ∃ k, k ≤ st * sz ∧ pre = List.range k) (st * sz) w := fun l J Jx W hWW hJ _ hY h0 => by
  have hl := full2_len sz 0 (st * sz)
  refine (itA_in n hn l Bf B st sz (full2 sz) (fun l W => J (l.map Prod.fst) W) (fun l W => Jx (l.map Prod.fst) W) W (fun pre W1 W2 r h1 h2 h3 => hJ _ W1 W2 r h1 h2 h3) ?_ ((hWW.block Bf hBf.lt).trans hBf) (hG.kept fun k h1 h2 => hWW.block k (by have := hG.lt; omega)) h0).mono ?_
  · intro pre x W1 h1 h2 h3 h4
    have e : fA sz (x.1 % (st * sz)) = #[.agg (pcG sz x), .agg #[.int .i64 x.2.1, .int .i64 x.2.2]] := by
      rw [Nat.mod_eq_of_lt h3]
      unfold full2 at h4
      have h5 := Option.some.inj h4
      unfold fA pcG
      rw [← h5]
    have := hY (pre.map Prod.fst) x.1 W1 h1 (by rw [List.length_map]; omega)
    rw [← e, List.map_append]
    exact this
  · rintro e W' ⟨hv, ⟨ys, rfl, h⟩ | ⟨pre, ⟨k, hk, rfl⟩, h⟩⟩
    · refine ⟨hv, .inl ⟨_, rfl, ?_⟩⟩
      rw [full2_fst, ← List.range_eq_range'] at h
      exact h
    · refine ⟨hv, .inr ⟨_, ⟨k, by omega, rfl⟩, ?_⟩⟩
      rw [List.map_take, full2_fst, ← List.range_eq_range', List.take_range] at h
      rw [Nat.min_eq_left (by omega)] at h
      exact h
end Go.Proofs.Ytimnmdeiiahakaa
