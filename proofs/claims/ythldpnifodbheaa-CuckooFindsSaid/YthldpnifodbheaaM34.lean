/- Texts that the walks of this seat lean on, put together. -/
import Derived.Laws.CopyOwn
import Derived.BigQuiet
import Derived.Deep.QuietTactic
import Derived.Shelf.Abstract
import Derived.Shelf.RegionOpen
import Derived.LoopIn
import Derived.BigFrame
import Derived.RangeFuncBound
import Derived.RangeFuncBox
import Derived.RangeFuncCalls
import Derived.RangeFuncLeaves
import Derived.RangeFuncNested
import Derived.RangeFuncRecord
import Derived.Great.BuildSlice
import Derived.Laws.AppendOwn
import Derived.Deep.CutBlock
import Derived.Deep.DeepCutAuto
import Derived.LoopTactic
import Derived.Handy
import Derived.Test.YthldpnifodbheaaTk
import Derived.Test.YthldpnifodbheaaTl
import Derived.Test.YthldpnifodbheaaM11
import Derived.Test.YthldpnifodbheaaM23
import Derived.Test.YthldpnifodbheaaM33
namespace Go.Proofs.Ythldpnifodbheaa
open Go.RowKit Go.Lib
abbrev Stp := Pl × Int
def inS (S : List Stp) (p : Pl) : Bool := S.any fun x => decide (x.1 = p)
def add1 (fr : Int) (S : List Stp) (p : Pl) : List Stp := if inS S p then S else S ++ [(p, fr)]
def addS (fr : Int) (S : List Stp) (L : List Pl) : List Stp := L.foldl (add1 fr) S
theorem addS_snoc (fr : Int) (S : List Stp) (L : List Pl) (p : Pl) : addS fr S (L ++ [p]) = add1 fr (addS fr S L) p := by
  unfold addS; rw [List.foldl_append]; rfl
theorem add1_len (fr : Int) (S : List Stp) (p : Pl) : (add1 fr S p).length ≤ S.length + 1 := by
  unfold add1; split <;> simp
theorem addS_len (fr : Int) (L : List Pl) (S : List Stp) : (addS fr S L).length ≤ S.length + L.length := by
  induction L generalizing S with
  | nil => exact Nat.le_refl _
  | cons p L ih =>
    have h1 := ih (add1 fr S p)
    have h2 := add1_len fr S p
    show (addS fr (add1 fr S p) L).length ≤ _
    rw [List.length_cons]
    omega
def stC (x : Stp) : Array Value := #[.int .i64 (x.1.1 : Int), .int .i64 (x.1.2 : Int), .int .i64 x.2]
def stcells (S : List Stp) : List Value := S.flatMap fun x => (stC x).toList
theorem stcells_snoc (S : List Stp) (x : Stp) : stcells (S ++ [x]) = stcells S ++ (stC x).toList := by
  unfold stcells; rw [List.flatMap_append]; simp
theorem stcells_get (S : List Stp) (k : Nat) (h : k < S.length) : (stcells S)[k * 3]? = some (.int .i64 ((S.getD k ((0, 0), 0)).1.1 : Int)) ∧ (stcells S)[k * 3 + 1]? = some (.int .i64 ((S.getD k ((0, 0), 0)).1.2 : Int)) ∧ (stcells S)[k * 3 + 2]? = some (.int .i64 (S.getD k ((0, 0), 0)).2) := by
  induction S generalizing k with
  | nil => simp at h
  | cons x S ih =>
    cases k with
    | zero => exact ⟨rfl, rfl, rfl⟩
    | succ k =>
      have := ih k (by simpa using h)
      rw [show (k + 1) * 3 = k * 3 + 1 + 1 + 1 by omega]
      exact this
def Mp (W : World) (m : Nat) (es : Array MapEntry) (clk : Nat) : Prop := W.heap[m]? = some (.map es clk)
theorem Mp.lt {W : World} {m : Nat} {es : Array MapEntry} {clk : Nat} (h : Mp W m es clk) : m < W.heap.size := (Array.getElem?_eq_some_iff.1 h).1
theorem Mp.below {B : Nat} {W W' : World} {m : Nat} {es : Array MapEntry} {clk : Nat} (h : Mp W m es clk) (hb : Below B W W') (hm : m < B) : Mp W' m es clk := (hb.block m hm).trans h
theorem Mp.same {W W' : World} {m : Nat} {es : Array MapEntry} {clk : Nat} (h : Mp W m es clk) (e : W'.heap[m]? = W.heap[m]?) : Mp W' m es clk := e.trans h
def keysP (es : Array MapEntry) (S : List Stp) : Prop := es.toList.map (fun e => (e.key, e.val)) = S.map fun x => (Value.agg (pcP x.1), Value.agg #[])
theorem keysP_nil : keysP #[] [] := rfl
theorem keysP_snoc {es : Array MapEntry} {S : List Stp} (h : keysP es S) (p : Pl) (fr : Int) (clk : Nat) : keysP (es.push ⟨.agg (pcP p), .agg #[], clk⟩) (S ++ [(p, fr)]) := by
  unfold keysP at h ⊢
  rw [Array.toList_push, List.map_append, List.map_append, h]
  rfl
def smS (S : List Stp) : Prop := ∀ x ∈ S, smP x.1
theorem add1_sm (fr : Int) (S : List Stp) (p : Pl) (h : smS S) (hp : smP p) : smS (add1 fr S p) := by
  unfold add1
  split
  · exact h
  · intro x hx
    rw [List.mem_append] at hx
    rcases hx with hx | hx
    · exact h x hx
    · simp at hx; subst hx; exact hp
theorem eqP' (x y : Pl) (hx : smP x) (hy : smP y) (w : World) : (Op.equal 51 (.agg (pcP x)) (.agg (pcP y))).run Try.prog w = .ok (decide (x = y)) w := eqP x y hx hy w
theorem run_findAsking (p : Pl) (hp : smP p) (w : World) : ∀ (l : List MapEntry) (S : List Stp) (_ : smS S) (_ : l.map (fun e => (e.key, e.val)) = S.map fun x => (Value.agg (pcP x.1), Value.agg #[])) (i : Nat),
    ∃ r, (Instr.findAsking 51 (.agg (pcP p)) l i).run Try.prog w = .ok r w ∧ (inS S p = false → r = none) ∧ (inS S p = true → ∃ j, r = some (j, .agg #[]))
  | [], S, _, h, i => by
    have : S = [] := by cases S <;> simp_all
    subst this
    exact ⟨none, rfl, fun _ => rfl, fun h => by cases h⟩
  | e :: l, S, hs, h, i => by
    cases S with
    | nil => simp at h
    | cons x S =>
      simp only [List.map_cons, List.cons.injEq, Prod.mk.injEq] at h
      obtain ⟨⟨h1, h2⟩, h3⟩ := h
      unfold Instr.findAsking
      rw [h1, h2]
      simp only [Sem.run_bind, eqP' p x.1 hp (hs x (List.mem_cons_self ..)) w, Result.andThen_ok]
      by_cases hx : p = x.1
      · refine ⟨some (i, .agg #[]), ?_, fun h => ?_, fun _ => ⟨i, rfl⟩⟩
        · rw [decide_eq_true hx]; rfl
        · unfold inS at h; rw [List.any_cons, decide_eq_true hx.symm] at h; cases h
      · obtain ⟨r, g1, g2, g3⟩ := run_findAsking p hp w l S (fun y hy => hs y (List.mem_cons_of_mem _ hy)) h3 (i + 1)
        have e : inS (x :: S) p = inS S p := by unfold inS; rw [List.any_cons, decide_eq_false (fun h => hx h.symm), Bool.false_or]
        refine ⟨r, ?_, fun h => g2 (e ▸ h), fun h => g3 (e ▸ h)⟩
        rw [decide_eq_false hx]
        exact g1
theorem run_findKey (p : Pl) (hp : smP p) (w : World) (l : List MapEntry) (S : List Stp) (hs : smS S) (h : l.map (fun e => (e.key, e.val)) = S.map fun x => (Value.agg (pcP x.1), Value.agg #[])) :
    ∃ r, (Instr.findKey 51 (.agg (pcP p)) l).run Try.prog w = .ok r w ∧ (inS S p = false → r = none) ∧ (inS S p = true → ∃ j, r = some (j, .agg #[])) := by
  unfold Instr.findKey
  obtain ⟨r, g1, g2, g3⟩ := run_findAsking p hp w l S hs h 0
  simp only [Sem.run_bind, run_underlying Try.underlying51, Result.andThen_ok]
  cases l with
  | nil =>
    have : S = [] := by cases S <;> simp_all
    subst this
    exact ⟨none, rfl, fun _ => rfl, fun h => by cases h⟩
  | cons e l => exact ⟨r, g1, g2, g3⟩
theorem run_checkP (em : Bool) (p : Pl) (w : World) : (Instr.checkKey em 10000 51 (.agg (pcP p))).run Try.prog w = .ok () w := by
  unfold pcP
  cases em <;> kernel_rfl
theorem zero151 (w : World) : (zeroValue 151).run Try.prog w = .ok (.agg #[]) w := by kernel_rfl
theorem run_lookupP {w : World} {m clk : Nat} {es : Array MapEntry} {S : List Stp} (h : Mp w m es clk) (hk : keysP es S) (hs : smS S) (p : Pl) (hp : smP p) :
    (Instr.lookup 114 (.map (some m)) (.agg (pcP p)) true).run Try.prog w = .ok (.tuple #[.agg #[], .bool (inS S p)]) w := by
  obtain ⟨r, g1, g2, g3⟩ := run_findKey p hp w es.toList S hs hk
  have h' : w.heap[m]? = some (.map es clk) := h
  unfold Instr.lookup
  simp only [Sem.run_bind, run_underlying Try.underlying114, Result.andThen_ok, getObj, Sem.run, h']
  simp only [Sem.run_pure, Result.andThen_ok, run_checkP, g1]
  cases hb : inS S p with
  | false =>
    rw [g2 hb]
    simp only [Sem.run_bind, zero151, Result.andThen_ok, Sem.run_pure]
    rfl
  | true =>
    obtain ⟨j, hj⟩ := g3 hb
    rw [hj]
    rfl
theorem exec_lookupP {w : World} {o : Oper} {a : Act} (x y : Operand) (ho : o.op = .lookup 114 x y true) {m clk : Nat} {es : Array MapEntry} {S : List Stp} (hx : a.eval x = .map (some m)) (p : Pl) (hy : a.eval y = .agg (pcP p)) (h : Mp w m es clk) (hk : keysP es S) (hs : smS S) (hp : smP p) :
    (execOp a.eval o).run Try.prog w = .ok (.value (.tuple #[.agg #[], .bool (inS S p)])) w := by
  unfold execOp
  simp only [ho, hx, hy, Sem.run_bind, run_lookupP h hk hs p hp, Result.andThen_ok, Sem.run_pure]
theorem run_mapUpdateP {w : World} {m clk : Nat} {es : Array MapEntry} {S : List Stp} (h : Mp w m es clk) (hk : keysP es S) (hs : smS S) (p : Pl) (hp : smP p) (hn : inS S p = false) :
    (Instr.mapUpdate 114 (.map (some m)) (.agg (pcP p)) (.agg #[])).run Try.prog w = .ok () (w.putObj m (.map (es.push ⟨.agg (pcP p), .agg #[], clk⟩) (clk + 1))) := by
  obtain ⟨r, g1, g2, -⟩ := run_findKey p hp w es.toList S hs hk
  have h' : w.heap[m]? = some (.map es clk) := h
  rw [g2 hn] at g1
  unfold Instr.mapUpdate
  simp only [Sem.run_bind, run_underlying Try.underlying114, Result.andThen_ok, getObj, Sem.run, h', run_checkP, g1, setObj]
  rfl
theorem wp_mapP {w : World} {K : Act → World → Prop} {Q : Exit → Act → World → Prop} {op : Oper} {a : Act} (x y z : Operand) (ho : op.op = .mapUpdate 114 x y z) {m clk : Nat} {es : Array MapEntry} {S : List Stp}
    (hx : a.eval x = .map (some m)) (p : Pl) (hy : a.eval y = .agg (pcP p)) (hz : a.eval z = .agg #[]) (h : Mp w m es clk) (hk : keysP es S) (hs : smS S) (hp : smP p) (hn : inS S p = false)
    (hK : ∀ w', Mp w' m (es.push ⟨.agg (pcP p), .agg #[], clk⟩) (clk + 1) → w.grownBy w' (some m) → K (a.put op.dst undef) w') : op.wp Try.prog a w K Q := by
  unfold Oper.wp execOp
  simp only [ho, hx, hy, hz, Sem.run_bind, run_mapUpdateP h hk hs p hp hn, Result.andThen_ok, Sem.run_pure]
  refine hK _ ?_ (grownBy_putObj' w m _)
  have := h.lt
  show (w.heap.setIfInBounds m _)[m]? = _
  simp [this]
end Go.Proofs.Ythldpnifodbheaa
namespace Go.Proofs.Ythldpnifodbheaa
open Go.RowKit Go.Shelf
attribute [local go_sem] Oper.semAt_some
set_option maxRecDepth 100000 in
set_option maxHeartbeats 1000000 in
theorem itq_in (n : Nat) (hn : 1 ≤ n) (l Bf Bk g len : Nat) (L : List (Nat × Nat)) (hL : len = L.length) (kc fc : Array Value) (hi31 : (Try.prog.info? 42).map (·.size) = some kc.size) (hl4 : len ≤ 4) (J Jx : List (Nat × Nat) → World → Prop)
    (W : World) (hJ : AbidesFrom W.heap.size J)
    (CP : ∀ (s : Nat) (w : World), Blk w g 110 fc → Calls Try.prog 63 #[.pointer (some ⟨g, 0, none⟩), .agg kc, .int .i64 (s : Int)] w fun e w' => e = .returned (.tuple #[.agg #[.int .i64 ((L.getD s (0, 0)).1 : Int), .int .i64 ((L.getD s (0, 0)).2 : Int)], .bool (decide (s < len))]) ∧ Below w.heap.size w w')
    (hY : ∀ pre x W, J pre W → pre.length < len → x = L.getD pre.length (0, 0) → YieldAt Fence.wide (n - 1) Try.prog l #[.agg (pcP x)] W fun e W' =>
      (e = .returned (.bool true) ∧ J (pre ++ [x]) W' ∧ Kept (fun k => k = g ∨ k = Bf ∨ k = Bk) W W') ∨ (e = .returned (.bool false) ∧ Jx (pre ++ [x]) W'))
    (hBf : Boxed W Bf 68 (.pointer (some ⟨g, 0, none⟩))) (hBk : Blk W Bk 42 kc) (hF : Blk W g 110 fc) (h0 : J [] W) :
    CallsIn Fence.wide n Try.prog 62 #[.func (.yield l) #[] #[], .pointer (some ⟨Bf, 0, none⟩), .pointer (some ⟨Bk, 0, none⟩)] W fun e W' => (∃ v, e = .returned v) ∧
      ((∃ ys, ys = L ∧ J ys W') ∨ (∃ pre, (∃ k, k ≤ len ∧ pre = L.take k) ∧ Jx pre W')) := by
  have HL := lh hL
  have HY := lh hY
  have HJ := lh hJ
  have HBF := lh hBf
  have HBK := lh hBk
  have HF := lh hF
  have HP := lh CP
  have HI := lh hi31
  clear hL hY hJ hBf hBk hF CP hi31
  refine callsIn_of_wp Try.func62 rfl trivial ?_ rfl
  simp only [Try.ntmps62, List.size_toArray, List.length_cons, List.length_nil, Nat.reduceAdd, Nat.reduceSub, Array.replicate_succ, Array.replicate_zero, List.push_toArray, List.append_toArray, List.nil_append, List.cons_append]
  gi_wp2
  gi_loopw [4] (fun i wr => ∃ k : Nat, k ≤ len ∧ i = .int .i64 (k : Int) ∧ J (L.take k) wr ∧ Kept (fun k => k = g ∨ k = Bf ∨ k = Bk) W wr)
    (fun i _ => len - (intOf i).toNat)
  case atStart => exact ⟨0, Nat.zero_le _, rfl, h0, Kept.refl _ _⟩
  case round =>
    obtain ⟨k, hk, rfl, hJs, hkp⟩ := hrel
    clear h0
    have bf : Boxed wr Bf 68 (.pointer (some ⟨g, 0, none⟩)) := (hkp.2 Bf (.inr (.inl rfl))).trans HBF.out
    have bk : Blk wr Bk 42 kc := (hkp.2 Bk (.inr (.inr rfl))).trans HBK.out
    have ff : Blk wr g 110 fc := (hkp.2 g (.inl rfl)).trans HF.out
    have hcf := bf.cell
    have L1 := lh (run_blk_load (P := Try.prog) 42 Bk _ bk Try.underlying42 rfl HI.out)
    have CPk := lh (HP.out k wr ff)
    have HKP := lh hkp
    have HJs := lh hJs
    have HSz : Hid (∀ j, (j = g ∨ j = Bf ∨ j = Bk) → j < wr.heap.size) := by
      show ∀ j, (j = g ∨ j = Bf ∨ j = Bk) → j < wr.heap.size
      intro j hj
      rcases hj with rfl | rfl | rfl
      · exact ff.lt
      · exact bf.lt
      · exact bk.lt
    clear hkp hJs bf bk ff
    gi_wp2_with ((with_reducible refine wpListIn_load_want (op := ⟨some 11, .load 42 (.tmp 2), _, _, _, _⟩) ?wg1 42 (.tmp 2) ?wo1 ⟨Bk, 0, none⟩ ?wx1 (.agg kc) L1.out ?_); (case wg1 => rfl); (case wo1 => rfl); (case wx1 => rfl))
    refine ⟨trivial, ?_⟩
    refine (callsIn_wide.2 CPk.out).mono ?_
    rintro e V ⟨rfl, hyB⟩
    by_cases hlt : k < len
    case neg =>
      obtain rfl : len = k := by omega
      rw [decide_eq_false hlt]
      generalize L.getD len (0, 0) = y at *
      have hJV := HJ.out _ _ _ none HJs.out (grown_of_below (hyB.alloc hyB.size (.cells #[.int .i64 (y.1 : Int), .int .i64 (y.2 : Int)] 51))) (fun r e => by cases e)
      have HJV := lh hJV
      clear hJV hlt CPk L1 hcf
      gi_wp2
      refine ⟨fun f hf => (by cases hf), ?_⟩
      gi_wp2
      refine bodyPost_ret (results_none rfl _ _ _) rfl ?_
      exact ⟨⟨_, rfl⟩, .inl ⟨_, rfl, by have := HJV.out; rw [HL.out, List.take_length] at this; exact this⟩⟩
    rw [decide_eq_true hlt]
    have HTK := lh (take_snocP L k (by rw [← HL.out]; exact hlt))
    have hky : L.getD k (0, 0) = L.getD (L.take k).length (0, 0) := by rw [List.length_take, Nat.min_eq_left (by rw [← HL.out]; omega)]
    generalize hyq : L.getD k (0, 0) = y at *
    have hal := hyB.alloc hyB.size (.cells #[.int .i64 (y.1 : Int), .int .i64 (y.2 : Int)] 51)
    obtain ⟨fn, tmps, assign, body, hy, hR⟩ := HY.out _ y _ (HJ.out _ _ _ none HJs.out (grown_of_below hal) (fun r e => by cases e)) (by rw [List.length_take, ← HL.out]; omega) hky
    clear hyq hky
    have HK2 := lh (Kept.below hal HSz.out)
    unfold pcP at hy
    clear hal CPk L1 hcf
    gi_wp2
    refine hR.mono ?_
    rintro e W3 (⟨rfl, hJ3, hk3⟩ | ⟨rfl, hJx3⟩)
    · gi_wp2
      go_roundw
      case rel => exact ⟨k + 1, by omega, by go_num, by rw [HTK.out] at hJ3; exact hJ3, (HKP.out.trans HK2.out).trans hk3⟩
      case measure => simp [intOf]; omega
    · gi_wp2
      refine bodyPost_ret (results_none rfl _ _ _) rfl ?_
      exact ⟨⟨_, rfl⟩, .inr ⟨_, ⟨k + 1, by omega, HTK.out⟩, hJx3⟩⟩
theorem itn_stops (n : Nat) (hn : 1 ≤ n) (Bf Bk g : Nat) (L : List (Nat × Nat)) (kc fc : Array Value) (hi31 : (Try.prog.info? 42).map (·.size) = some kc.size) (hl4 : L.length ≤ 4) (w : World)
    (CP : ∀ (s : Nat) (w : World), Blk w g 110 fc → Calls Try.prog 63 #[.pointer (some ⟨g, 0, none⟩), .agg kc, .int .i64 (s : Int)] w fun e w' => e = .returned (.tuple #[.agg #[.int .i64 ((L.getD s (0, 0)).1 : Int), .int .i64 ((L.getD s (0, 0)).2 : Int)], .bool (decide (s < L.length))]) ∧ Below w.heap.size w w')
    (hBf : Boxed w Bf 68 (.pointer (some ⟨g, 0, none⟩))) (hBk : Blk w Bk 42 kc) (hF : Blk w g 110 fc) :
    SeqStopsK Fence.wide n Try.prog 62 #[.pointer (some ⟨Bf, 0, none⟩), .pointer (some ⟨Bk, 0, none⟩)] (fun i : Nat => #[.agg (pcP (L.getD i (0, 0)))]) (Kept (fun k => k = g ∨ k = Bf ∨ k = Bk)) (fun ys => ys = List.range L.length) (fun pre => ∃ k, k ≤ L.length ∧ pre = List.range k) L.length w := fun l J Jx W hW hJ _ hY h0 => by
  refine (itq_in n hn l Bf Bk g L.length L rfl kc fc hi31 hl4 (fun l W => J (List.range l.length) W) (fun l W => Jx (List.range l.length) W) W (fun pre W1 W2 r h1 h2 h3 => hJ _ W1 W2 r h1 h2 h3) CP ?_ ((hW.block Bf hBf.lt).trans hBf) ((hW.block Bk hBk.lt).trans hBk) ((hW.block g hF.lt).trans hF) h0).mono ?_
  · intro pre x W1 h1 h2 h3
    have := hY (List.range pre.length) pre.length W1 h1 (by rw [List.length_range]; exact h2)
    rw [h3]
    simp only [List.length_append, List.length_singleton, List.range_succ]
    exact this
  · rintro e W' ⟨hv, ⟨ys, rfl, h⟩ | ⟨pre, ⟨k, hk, rfl⟩, h⟩⟩
    · exact ⟨hv, .inl ⟨_, rfl, h⟩⟩
    · exact ⟨hv, .inr ⟨_, ⟨k, hk, by rw [List.length_take, Nat.min_eq_left hk]⟩, h⟩⟩
end Go.Proofs.Ythldpnifodbheaa
namespace Go.Proofs.Ythldpnifodbheaa
open Go.RowKit Go.Lib
theorem fold_setL : ∀ (l : List Value) (A : Array Value) (k : Nat), (l.zipIdx k).foldl (fun a (x : Value × Nat) => a.setIfInBounds (0 + x.2) x.1) A = setL A k l
  | [], _, _ => rfl
  | v :: r, A, k => by
    rw [List.zipIdx_cons, List.foldl_cons, fold_setL r, Nat.zero_add]
    rfl
theorem fill_one (m : Nat) (z cs : Array Value) (_hz : z.size = m) (hc : cs.size = m) (_hm : 0 < m) : Instr.fill (fun i => some (i * m, m)) ((Array.range (1 * m)).map (z[· % z.size]!)) [(0, .agg cs)] = some cs := by
  unfold Instr.fill
  simp only [Nat.zero_mul]
  have h1 : (Value.agg cs).cells.size = m := hc
  have h2 : ((Array.range (1 * m)).map (z[· % z.size]!)).size = m := by simp
  rw [if_neg (by rw [h1, h2]; simp)]
  unfold Instr.fill
  show some ((cs.zipIdx).foldl _ _) = _
  rw [← Array.foldl_toList, Array.toList_zipIdx, fold_setL, setL_all _ _ (by rw [h2, hc])]
theorem wp_one_blk {P : Program} {o : Oper} {a : Act} {w : World} {K : Act → World → Prop} {Q : Exit → Act → World → Prop} (t e : TypeId) (x : Operand) (ho : o.op = .buildSlice t 1 #[(0, x)]) (cs z : Array Value) (m bb : Nat)
    (hx : a.eval x = .agg cs) (hu : P.underlying t = some (.slice e)) (hi : (P.info? e).map (fun i => (i.zero, i.size, i.bytes)) = some (some (.agg z), m, bb)) (hz : z.size = m) (hc : cs.size = m) (hm : 0 < m ∧ m ≤ 1000)
    (h : ∀ w', Blk w' w.heap.size e cs → Below w.heap.size w w' → w'.heap.size = w.heap.size + 1 → K (a.put o.dst (.slice (some ⟨w.heap.size, 0, none⟩) 1 1)) w') : o.wp P a w K Q := by
  obtain ⟨i, hi, hz0, hs, -⟩ := info_parts hi
  refine wp_buildSlice t e 1 #[(0, x)] ho cs i (.agg z) hu hi hz0 (by rw [hs]; omega) (by rw [hs]; omega) ?_ (h _ (Blk.new w e cs) ((Below.refl _ w).alloc (Nat.le_refl _) _) (World.size_alloc w _))
  rw [hs]
  rw [show ((#[(0, x)] : Array (Nat × Operand)).map fun (i, x) => (i, a.eval x)).toList = [(0, a.eval x)] by simp, hx]
  exact fill_one m z cs hz hc hm.1
theorem wp_app_blk {P : Program} {o : Oper} {a : Act} {w : World} {K : Act → World → Prop} {Q : Exit → Act → World → Prop} (s x : Operand) (t e : TypeId)
    (ho : o.op = .call { callee := .builtin .append, args := #[s, x], argTypes := #[t, t] }) (cs z : Array Value) (m bb : Nat) (hu : P.underlying t = some (.slice e)) (hi : (P.info? e).map (fun i => (i.zero, i.size, i.bytes)) = some (some (.agg z), m, bb)) (hz : z.size = m) (hc : cs.size = m) (hm : 0 < m ∧ bb ≤ 1000) (hone : cs.all (·.oneCell') = true)
    (base : Nat) (v : Value) (n : Nat) (xs : List Value) (hs : a.eval s = v) (hown : w.ownsRow base e m v n xs) (g : Nat) (hx : a.eval x = .slice (some ⟨g, 0, none⟩) 1 1)
    (hg : Blk w g e cs) (hn : n ≤ 1000000) (hbase : base ≤ w.heap.size)
    (h : ∀ g' c' w', w'.ownsRow base e m (.slice (some ⟨g', 0, none⟩) (n + 1) c') (n + 1) (xs ++ cs.toList) → w.grownBy w' v.ownBlock → K (a.put o.dst (.slice (some ⟨g', 0, none⟩) (n + 1) c')) w') : o.wp P a w K Q := by
  obtain ⟨i, hi, hz0, hs2, hby⟩ := info_parts hi
  refine wp_append_own w s x t ho base e i _ m bb hu hi hz0 hs2 hby hz hm.1 v n xs hs hown ⟨g, 0, none⟩ 1 1 cs.toList hx (by rw [Array.length_toList, hc, Nat.one_mul]) ?_ ?_ (by unfold maxLen; omega) ?_ hbase (fun v' w' h1 h2 _ => ?_)
  · intro j u hj
    rw [Addr.add_lit, Nat.zero_add, hg.cell]
    simpa using hj
  · intro u hu
    rw [← Array.all_toList, List.all_eq_true] at hone
    exact hone u hu
  · have := Nat.mul_le_mul (show n + 1 ≤ 1000001 by omega) hm.2
    omega
  · obtain ⟨g', c', rfl⟩ := ownsRow_succ h1
    exact h g' c' w' h1 h2
theorem wpList_one_blk {P : Program} {ops : Array Oper} {rest : List Oper} {o : Oper} {a : Act} {w : World} {Q : Exit → Act → World → Prop} (hw : Region.wanted o (yielded ops a.tmps) = true) (t e : TypeId) (x : Operand) (ho : o.op = .buildSlice t 1 #[(0, x)]) (cs z : Array Value) (m bb : Nat)
    (hx : a.eval x = .agg cs) (hu : P.underlying t = some (.slice e)) (hi : (P.info? e).map (fun i => (i.zero, i.size, i.bytes)) = some (some (.agg z), m, bb)) (hz : z.size = m) (hc : cs.size = m) (hm : 0 < m ∧ m ≤ 1000)
    (h : ∀ w', Blk w' w.heap.size e cs → Below w.heap.size w w' → w'.heap.size = w.heap.size + 1 → wpList P ops Q rest (a.put o.dst (.slice (some ⟨w.heap.size, 0, none⟩) 1 1)) w') : wpList P ops Q (o :: rest) a w :=
  BigFrame.wpList_want hw fun _ hK => wp_one_blk t e x ho cs z m bb hx hu hi hz hc hm fun w' h1 h2 h3 => hK _ _ (h w' h1 h2 h3)
theorem wpList_app_blk {P : Program} {ops : Array Oper} {rest : List Oper} {o : Oper} {a : Act} {w : World} {Q : Exit → Act → World → Prop} (hw : Region.wanted o (yielded ops a.tmps) = true) (s x : Operand) (t e : TypeId)
    (ho : o.op = .call { callee := .builtin .append, args := #[s, x], argTypes := #[t, t] }) (cs z : Array Value) (m bb : Nat) (hu : P.underlying t = some (.slice e)) (hi : (P.info? e).map (fun i => (i.zero, i.size, i.bytes)) = some (some (.agg z), m, bb)) (hz : z.size = m) (hc : cs.size = m) (hm : 0 < m ∧ bb ≤ 1000) (hone : cs.all (·.oneCell') = true)
    (base : Nat) (v : Value) (n : Nat) (xs : List Value) (hs : a.eval s = v) (hown : w.ownsRow base e m v n xs) (g : Nat) (hx : a.eval x = .slice (some ⟨g, 0, none⟩) 1 1)
    (hg : Blk w g e cs) (hn : n ≤ 1000000) (hbase : base ≤ w.heap.size)
    (h : ∀ g' c' w', w'.ownsRow base e m (.slice (some ⟨g', 0, none⟩) (n + 1) c') (n + 1) (xs ++ cs.toList) → w.grownBy w' v.ownBlock → wpList P ops Q rest (a.put o.dst (.slice (some ⟨g', 0, none⟩) (n + 1) c')) w') : wpList P ops Q (o :: rest) a w :=
  BigFrame.wpList_want hw fun _ hK => wp_app_blk s x t e ho cs z m bb hu hi hz hc hm hone base v n xs hs hown g hx hg hn hbase fun g' c' w' h1 h2 => hK _ _ (h g' c' w' h1 h2)
def SS (p m b : Nat) (S : List Stp) (W : World) : Prop :=
  ∃ v es clk, Blk W p 117 #[v, .map (some m)] ∧ W.ownsRow b 120 3 v S.length (stcells S) ∧ Mp W m es clk ∧ keysP es S
theorem Mp.own {m B : Nat} {es : Array MapEntry} {clk : Nat} (h : m < B) : OwnFrom B (fun (_ : Unit) W => Mp W m es clk) := fun _ X Y row hm hg hr =>
  (hg.block m hm.lt (fun e => by have := (hr m e.symm).1; omega)).trans hm
theorem row_own {B b : Nat} {e : TypeId} {k n : Nat} {v : Value} {xs : List Value} : OwnFrom B (fun (_ : Unit) W => W.ownsRow b e k v n xs) := fun _ X Y row hs hg hr => by
  refine ⟨hs.1, ?_⟩
  rcases hs.2 with h0 | ⟨g, cap, cur, rfl, hb, hh, h3⟩
  · exact .inl h0
  · refine .inr ⟨g, cap, cur, rfl, hb, (hg.block g (Array.getElem?_eq_some_iff.1 hh).1 (fun e => ?_)).trans hh, h3⟩
    obtain ⟨-, o, ho, hc⟩ := hr g e.symm
    rw [hh] at ho
    cases ho
    simp [Obj.isCells] at hc
theorem SS.own {p m b B : Nat} (h : m < B) : OwnFrom B (fun (S : List Stp) W => SS p m b S W) := fun S X Y row hs hg hr => by
  obtain ⟨v, es, clk, h1, h2, h3, h4⟩ := hs
  exact ⟨v, es, clk, blk_own _ _ _ _ () X Y row h1 hg hr, row_own () X Y row h2 hg hr, Mp.own h () X Y row h3 hg hr, h4⟩
theorem own_ne_blk {W : World} {base g : Nat} {e t : TypeId} {k n : Nat} {v : Value} {xs : List Value} {cs : Array Value} (h : W.ownsRow base e k v n xs) (hb : Blk W g t cs) (ht : t ≠ e) : v.ownBlock ≠ some g := fun q => by
  rcases h.2 with ⟨rfl, _⟩ | ⟨g', cap, cur, rfl, hbg, hg, _⟩
  · simp [Value.ownBlock] at q
  · obtain rfl : g' = g := by simpa [Value.ownBlock] using q
    have h2 := hg.symm.trans (show W.heap[g']? = some (.cells cs t (0, 0)) from hb)
    cases h2
    exact ht rfl
theorem own_ne_map {W : World} {base m : Nat} {e : TypeId} {k n clk : Nat} {v : Value} {xs : List Value} {es : Array MapEntry} (h : W.ownsRow base e k v n xs) (hb : Mp W m es clk) : v.ownBlock ≠ some m := fun q => by
  rcases h.2 with ⟨rfl, _⟩ | ⟨g', cap, cur, rfl, hbg, hg, _⟩
  · simp [Value.ownBlock] at q
  · obtain rfl : g' = m := by simpa [Value.ownBlock] using q
    have h2 := hg.symm.trans (show W.heap[g']? = some (.map es clk) from hb)
    cases h2
end Go.Proofs.Ythldpnifodbheaa
namespace Go.Proofs.Ythldpnifodbheaa
open Go.RowKit Go.Lib
theorem own_of_same {W W' : World} {b : Nat} {e : TypeId} {k n : Nat} {v : Value} {xs : List Value} (h : W.ownsRow b e k v n xs) (hk : ∀ g, v.ownBlock = some g → W'.heap[g]? = W.heap[g]?) : W'.ownsRow b e k v n xs := by
  refine ⟨h.1, ?_⟩
  rcases h.2 with h0 | ⟨g, cap, cur, rfl, hb, hh, h3⟩
  · exact .inl h0
  · exact .inr ⟨g, cap, cur, rfl, hb, (hk g rfl).trans hh, h3⟩
theorem own_lt {W : World} {b : Nat} {e : TypeId} {k n : Nat} {v : Value} {xs : List Value} (h : W.ownsRow b e k v n xs) {g : Nat} (hg : v.ownBlock = some g) : b ≤ g ∧ g < W.heap.size ∧ ∃ o, W.heap[g]? = some o ∧ o.isCells = true := by
  rcases h.2 with ⟨rfl, _⟩ | ⟨g', cap, cur, rfl, hb, hh, h3⟩
  · simp [Value.ownBlock] at hg
  · obtain rfl : g' = g := by simpa [Value.ownBlock] using hg
    exact ⟨hb, (Array.getElem?_eq_some_iff.1 hh).1, _, hh, rfl⟩
theorem own_keep {W W' : World} {b : Nat} {e : TypeId} {k n : Nat} {v : Value} {xs : List Value} (h : W.ownsRow b e k v n xs) (hy : Below W.heap.size W W') : W'.ownsRow b e k v n xs :=
  own_of_same h fun g hg => hy.block g (own_lt h hg).2.1
theorem own_grown {W W' : World} {b : Nat} {e : TypeId} {k n : Nat} {v : Value} {xs : List Value} {r : Option Nat} (h : W.ownsRow b e k v n xs) (hy : W.grownBy W' r) (hne : r ≠ v.ownBlock ∨ v.ownBlock = none) : W'.ownsRow b e k v n xs :=
  own_of_same h fun g hg => hy.block g (own_lt h hg).2.1 (fun q => by
    rcases hne with q2 | q2
    · exact q2 (by rw [hg, ← q])
    · rw [hg] at q2; cases q2)
theorem own_blk_store {W W' : World} {b g : Nat} {e t : TypeId} {k n : Nat} {v : Value} {xs : List Value} {cs : Array Value} (h : W.ownsRow b e k v n xs) (hb : Blk W g t cs) (ht : t ≠ e) (hF : ∀ k, k ≠ g → W'.heap[k]? = W.heap[k]?) (_hs : W.heap.size ≤ W'.heap.size) : W'.ownsRow b e k v n xs :=
  own_of_same h fun j hj => hF j fun q => own_ne_blk h hb ht (by rw [hj, q])
theorem own_far {W : World} {b : Nat} {e t : TypeId} {k n : Nat} {v : Value} {xs : List Value} {cs : Array Value} (h : W.ownsRow b e k v n xs) {p : Addr} (hb : Blk W p.block t cs) (ht : t ≠ e) (u : Value) : (W.setCell p u).ownsRow b e k v n xs :=
  own_of_same h fun j hj => Below.heap_setCell _ _ _ _ fun q => own_ne_blk h hb ht (by rw [hj, q])
theorem Mp.far {W : World} {m clk : Nat} {es : Array MapEntry} (h : Mp W m es clk) {p : Addr} (hne : m ≠ p.block) (u : Value) : Mp (W.setCell p u) m es clk :=
  Mp.same h (Below.heap_setCell _ _ _ _ hne)
theorem Mp.ne {W : World} {m g clk : Nat} {es : Array MapEntry} {t : TypeId} {cs : Array Value} (h : Mp W m es clk) (hb : Blk W g t cs) : m ≠ g := fun e => by
  subst e
  have h2 := (show W.heap[m]? = some (.map es clk) from h).symm.trans (show W.heap[m]? = some (.cells cs t (0, 0)) from hb)
  cases h2
theorem own_ne {W : World} {b g : Nat} {e t : TypeId} {k n : Nat} {v : Value} {xs : List Value} {cs : Array Value} (h : W.ownsRow b e k v n xs) (hb : Blk W g t cs) (ht : t ≠ e) : v.ownBlock ≠ some g := own_ne_blk h hb ht
theorem keepsF_row {W W' : World} {B b : Nat} {e : TypeId} {k n : Nat} {v : Value} {xs : List Value} (h : W.ownsRow b e k v n xs) (hg : W.grownBy W' v.ownBlock) : KeepsFrom B W W' :=
  (KeepsOthers.of_grownBy hg fun j o ej hj => by
    obtain ⟨-, -, o', ho, hc⟩ := own_lt h ej
    rw [ho] at hj
    cases hj
    exact hc).from _
theorem map_getD_range (L : List Pl) : (List.range L.length).map (fun i => L.getD i (0, 0)) = L := by
  refine List.ext_getElem (by simp) (fun i h1 h2 => ?_)
  simp [List.getD_eq_getElem?_getD, List.getElem?_eq_getElem h2]
theorem add1_in {fr : Int} {S : List Stp} {p : Pl} (h : inS S p = true) : add1 fr S p = S := by unfold add1; rw [if_pos h]
theorem add1_out {fr : Int} {S : List Stp} {p : Pl} (h : inS S p = false) : add1 fr S p = S ++ [(p, fr)] := by unfold add1; rw [h]; rfl
theorem addS_sm (fr : Int) (L : List Pl) (S : List Stp) (h : smS S) (hL : ∀ p ∈ L, smP p) : smS (addS fr S L) := by
  induction L generalizing S with
  | nil => exact h
  | cons p L ih => exact ih _ (add1_sm fr S p h (hL p (List.mem_cons_self ..))) fun q hq => hL q (List.mem_cons_of_mem _ hq)
theorem info120 : (Try.prog.info? 120).map (fun i => (i.zero, i.size, i.bytes)) = some (some (.agg #[.int .i64 0, .int .i64 0, .int .i64 0]), 3, 24) := by kernel_rfl
theorem i151 : (Try.prog.info? 151).map (·.size) = some 0 := by kernel_rfl
theorem wpIn_region_held_last_round {l n k : Nat} {P : Program} {id : Nat} {ops : Array Oper} {Q : Exit → Act → World → Prop} {S : World → Prop} {a : Act} {w : World} (hm : P.follows .mixedOrders = true) (hdf : noDefer ops = true) (hlo : ¬ LetsOut Q) (hB : lastB .any ops k = true)
    (h : wpAnyH P .any ops.pop (ahead P ops k Q) S k (Array.replicate k false) a w.drew) : (Code.region id ops true).wpIn (Fence.wide.inRound l) n P Q a w := by
  have hn := (lastB_spec hB).1
  have := held_last hB k (Array.replicate k false) a w.drew (by simp) (fun j o _ hl => by
    rcases Nat.lt_or_ge j k with q | q <;> simp [Array.getD_eq_getD_getElem?, q] at hl) h
  refine wpIn_region_any hm ?_
  rw [hn, Array.replicate_succ]
  exact wpAny_round (noDefer_spec hdf) hlo _ _ _ _ this
theorem op_last {P : Program} {ops : Array Oper} {Q : Exit → Act → World → Prop} {n : Nat} {o : Oper} {a : Act} {w : World} (h : o.wp P a w (fun a' w' => Q .normal a' w') Q)
    (ho : ops[n]? = some o := by (simp only [List.getElem?_toArray, List.getElem?_cons_succ, List.getElem?_cons_zero]; exact rfl)) (hg : o.guard = none := by rfl) : ahead P ops n Q .normal a w := by
  have hw : ∀ f, Region.wanted o f = true := fun f => by simp [Region.wanted, hg]
  show wpOp P ops Q n _ a w
  unfold wpOp
  rw [ho]
  simp only [hw, if_true]
  exact .inl h
theorem built120 (y : Pl) (fr : Int) : Try.prog.built 120 [(0, .agg (pcP y)), (1, .int .i64 fr)] = some (stC (y, fr)) := by unfold pcP stC; kernel_rfl
theorem stC_all (x : Stp) : (stC x).all (·.oneCell') = true := by simp [stC, Value.oneCell']
end Go.Proofs.Ythldpnifodbheaa
namespace Go.Proofs.Ythldpnifodbheaa
open Go.RowKit Go.Shelf
attribute [local go_sem] Oper.semAt_some
set_option maxRecDepth 100000 in
set_option maxHeartbeats 4000000 in
theorem add_any (p m b : Nat) (S : List Stp) (fr : Int) (gI fn : Nat) (L : List Pl) (kc fc : Array Value) (hi42 : (Try.prog.info? 42).map (·.size) = some kc.size) (hl4 : L.length ≤ 4) (w : World)
    (CP : ∀ (s : Nat) (w : World), Blk w fn 110 fc → Calls Try.prog 63 #[.pointer (some ⟨fn, 0, none⟩), .agg kc, .int .i64 (s : Int)] w fun e w' => e = .returned (.tuple #[.agg #[.int .i64 ((L.getD s (0, 0)).1 : Int), .int .i64 ((L.getD s (0, 0)).2 : Int)], .bool (decide (s < L.length))]) ∧ Below w.heap.size w w')
    (hF : Blk w fn 110 fc) (h1 : Boxed w gI 68 (.pointer (some ⟨fn, 0, none⟩))) (h2 : Blk w (gI + 1) 42 kc)
    (hS : SS p m b S w) (hsm : smS S) (hL : ∀ i, smP (L.getD i (0, 0))) (hln : S.length ≤ 900000) (hmp : m < p) (hpb : p < b) (hb : b ≤ w.heap.size) :
    Calls Try.prog 50 #[.pointer (some ⟨p, 0, none⟩), .func (.func 62) #[] #[.pointer (some ⟨gI, 0, none⟩), .pointer (some ⟨gI + 1, 0, none⟩)], .int .i64 fr] w fun e w' => e = .returned (.tuple #[]) ∧ SS p m b (addS fr S L) w' ∧ Below m w w' := by
  obtain ⟨N, hN⟩ : ∃ N, N = L.length := ⟨_, rfl⟩
  refine (callsIn_wide (n := 3)).1 ?_
  refine callsIn_of_wp_marks Try.func50 rfl trivial ?_ rfl
  simp only [Try.ntmps50, List.size_toArray, List.length_cons, List.length_nil, Nat.reduceAdd, Nat.reduceSub, Array.replicate_succ, Array.replicate_zero, List.push_toArray, List.append_toArray, List.nil_append, List.cons_append]
  have hg1 := h1.lt
  have hg2 := h2.lt
  have hg3 := hF.lt
  have Hp : p < w.heap.size := by omega
  have Hm : m < w.heap.size := by omega
  have n1 : gI ≠ p ∧ gI + 1 ≠ p ∧ fn ≠ p ∧ m ≠ gI ∧ m ≠ gI + 1 ∧ m ≠ fn := by
    obtain ⟨v, es, clk, hP, hO, hM, hk⟩ := hS
    exact ⟨Blk.ne_ty h1 hP (by decide), Blk.ne_ty h2 hP (by decide), Blk.ne_ty hF hP (by decide), hM.ne h1, hM.ne h2, hM.ne hF⟩
  obtain ⟨W, hW⟩ : ∃ W, W = (w.alloc (.cells #[.pointer (some ⟨p, 0, none⟩)] 150)).alloc (.cells #[.int .i64 fr] 3) := ⟨_, rfl⟩
  have hb3 : Below w.heap.size w W := hW ▸ ((Below.refl _ w).alloc (Nat.le_refl _) _).alloc (by simp) _
  have xS : Blk W w.heap.size 150 #[.pointer (some ⟨p, 0, none⟩)] := hW ▸ (Blk.new w 150 #[.pointer (some ⟨p, 0, none⟩)]).alloc _
  have xF : Blk W (w.heap.size + 1) 3 #[.int .i64 fr] := by
    have := Blk.new (w.alloc (.cells #[.pointer (some ⟨p, 0, none⟩)] 150)) 3 #[.int .i64 fr]
    rw [World.size_alloc] at this
    exact hW ▸ this
  have hWs : W.heap.size = w.heap.size + 2 := by rw [hW]; simp
  have HW := lh hW
  have FW : Blk W fn 110 fc := hF.below hb3 hg3
  have h1W : Blk W gI 68 #[.pointer (some ⟨fn, 0, none⟩)] := Blk.below h1 hb3 hg1
  have h2W : Blk W (gI + 1) 42 kc := h2.below hb3 hg2
  have sW : SS p m b S W := (SS.own (p := p) (m := m) (b := b) (B := w.heap.size) Hm) S w W none hS (grown_of_below hb3) (fun r e => by cases e)
  clear hW hS
  have hql := eql_fnP
  gi_wp2_with fail
  rw [← HW.out]
  clear HW
  refine name_act fun act hact => ?_
  refine wpIn_rangeFunc_ownH (a := act) rfl (by omega) (gf := 62) (lb := #[.pointer (some ⟨gI, 0, none⟩), .pointer (some ⟨gI + 1, 0, none⟩)]) (by rw [hact]; rfl) trivial (enters_of Try.func62 (by kernel_rfl) rfl)
    (itn_stops 2 (by omega) gI (gI + 1) fn L kc fc hi42 hl4 W CP h1W h2W FW) (fun h k => Kept.trans h k) (kept_b (fun k hk => by rcases hk with rfl | rfl | rfl <;> omega)) (Below.refl _ _) (fun _ => rfl)
    (fun pre W' => SS p m b (addS fr S (pre.map fun i => L.getD i (0, 0))) W' ∧ Below m w W' ∧ Blk W' w.heap.size 150 #[.pointer (some ⟨p, 0, none⟩)] ∧ Blk W' (w.heap.size + 1) 3 #[.int .i64 fr] ∧ Blk W' fn 110 fc ∧ Blk W' gI 68 #[.pointer (some ⟨fn, 0, none⟩)] ∧ Blk W' (gI + 1) 42 kc)
    (fun _ _ _ => False)
    (OwnFrom.and (fun pre X Y row h hg hr => SS.own (p := p) (m := m) (b := b) (B := W.heap.size) (by omega) _ X Y row h hg hr) (OwnFrom.and (ownFrom_below (by omega) (by omega)) (OwnFrom.and (fun _ X Y row h hg hr => blk_own _ _ _ _ () X Y row h hg hr) (OwnFrom.and (fun _ X Y row h hg hr => blk_own _ _ _ _ () X Y row h hg hr) (OwnFrom.and (fun _ X Y row h hg hr => blk_own _ _ _ _ () X Y row h hg hr) (OwnFrom.and (fun _ X Y row h hg hr => blk_own _ _ _ _ () X Y row h hg hr) (fun _ X Y row h hg hr => blk_own _ _ _ _ () X Y row h hg hr)))))))
    (fun _ _ _ _ _ hs _ _ => hs)
    ⟨sW, hb3.mono (by omega), xS, xF, FW, h1W, h2W⟩
    (fun x a' W' => ∃ bp, W.heap.size ≤ bp ∧ Blk W' bp 51 (pcP (L.getD x (0, 0))) ∧ a' = { tmps := (act.tmps.setIfInBounds 10 (.agg (pcP (L.getD x (0, 0))))).setIfInBounds 6 (.pointer (some ⟨bp, 0, none⟩)), defers := [] })
    (fun x a' _ A' B' row hs hg hr => by
      obtain ⟨bp, e1, e2, e3⟩ := hs
      exact ⟨bp, e1, blk_own _ _ bp _ () A' B' row e2 hg hr, e3⟩)
    ?assign ?body ?done ?stop
  case assign =>
    intro l pre x W' KK hI hK
    have hsz := Nat.lt_of_lt_of_le Hm hI.2.1.size
    have hs2 := hI.2.2.2.1.lt
    have hs3 : gI < W'.heap.size ∧ gI + 1 < W'.heap.size ∧ fn < W'.heap.size := ⟨hI.2.2.2.2.2.1.lt, hI.2.2.2.2.2.2.lt, hI.2.2.2.2.1.lt⟩
    have HII := lh hI
    subst hact
    clear CP hql hF h1 h2 FW h1W h2W xS xF sW hI
    generalize L.getD x (0, 0) = y at *
    unfold pcP at hK ⊢
    gi_wp2
    have hal := (Below.refl W'.heap.size W').alloc (Nat.le_refl _) (.cells #[.int .i64 (y.1 : Int), .int .i64 (y.2 : Int)] 51)
    obtain ⟨j1, j2, j3, j4, j5, j6, j7⟩ := HII.out
    exact hK _ _ ((KeepsOthers.alloc _ _).from _) (Kept.below hal (fun k hk => by rcases hk with rfl | rfl | rfl <;> omega)) ⟨(SS.own (p := p) (m := m) (b := b) (B := W'.heap.size) (by omega)) _ W' _ none j1 (grown_of_below hal) (fun r e => by cases e), j2.trans (hal.mono (by omega)), j3.alloc _, j4.alloc _, j5.alloc _, j6.alloc _, j7.alloc _⟩ ⟨W'.heap.size, by omega, Blk.new _ _ _, rfl⟩
  case body =>
    rintro l pre x a' W' hwl hrec ⟨⟨v, es, clk, hP, hO, hM, hk⟩, hB, hXS, hXF, hXn, hX1, hX2⟩ ⟨bp, hbp, hbb, rfl⟩ hlt
    subst hact
    simp only [tS1, tS2, tS3]
    have hsn : (addS fr S (pre.map fun i => L.getD i (0, 0))).length ≤ 900004 := by
      have := addS_len fr (pre.map fun i => L.getD i (0, 0)) S
      rw [List.length_map] at this
      omega
    have HSM := lh (addS_sm fr (pre.map fun i => L.getD i (0, 0)) S hsm (fun q hq => by obtain ⟨i, _, rfl⟩ := List.mem_map.1 hq; exact hL i))
    have HSN : Hid (addS fr S ((pre ++ [x]).map fun i => L.getD i (0, 0)) = add1 fr (addS fr S (pre.map fun i => L.getD i (0, 0))) (L.getD x (0, 0))) := by
      show _ = _
      rw [List.map_append]
      exact addS_snoc fr S _ _
    have HX := lh (hL x)
    generalize addS fr S (pre.map fun i => L.getD i (0, 0)) = T at *
    generalize L.getD x (0, 0) = y at *
    have KB := lh (hB)
    have KF := lh (keepsF_below (b := W.heap.size) (Below.refl W'.heap.size W'))
    have hKm : W.heap.size < W'.heap.size + 1 := Nat.lt_succ_of_le (by have := hXF.lt; omega)
    have P := lh hP
    have O := lh hO
    have M := lh hM
    have KP := lh hk
    have XS := lh hXS
    have XF := lh hXF
    have XN := lh hXn
    have X1 := lh hX1
    have X2 := lh hX2
    have X := lh hbb
    have hbl := hbb.lt
    have HK0 : Hid (∀ W2, Blk W2 fn 110 fc → Blk W2 gI 68 #[.pointer (some ⟨fn, 0, none⟩)] → Blk W2 (gI + 1) 42 kc → W'.heap.size ≤ W2.heap.size → Kept (fun k => k = fn ∨ k = gI ∨ k = gI + 1) W' W2) := by
      intro W2 q1 q2 q3 q4
      refine ⟨q4, fun k hk => ?_⟩
      rcases hk with rfl | rfl | rfl
      · exact Eq.trans q1 (Eq.symm hXn)
      · exact Eq.trans q2 (Eq.symm hX1)
      · exact Eq.trans q3 (Eq.symm hX2)
    have KW := lh (Nat.le_refl W'.heap.size)
    clear CP hql hF h1 h2 FW h1W h2W xS xF sW hB hP hO hM hk hXS hXF hXn hX1 hX2 hbb hL hsm hwl hrec
    gi_wp2_with fail
    refine wpIn_region_held_round (S := (fun w' : World => Blk w' (w.heap.size) 150 #[.pointer (some ⟨p, 0, none⟩)] ∧ Blk w' (p) 117 #[v, .map (some m)] ∧ Blk w' (bp) 51 (pcP y) ∧ Mp w' m es clk)) (by kernel_rfl) (by kernel_rfl) (fun ⟨_, _, h⟩ => h) ?_
    change wpAnyH _ _ _ _ _ _ _ _ W'.drew
    have hy : Below W'.heap.size W' W'.drew := (Below.refl _ _).drew
    replace KB := lh (KB.out.trans (hy.mono (Nat.le_trans (by omega) KB.out.size)))
    replace O := lh (own_keep O.out hy)
    replace M := lh (Mp.below M.out hy M.out.lt)
    replace KF := lh (KF.out.trans (keepsF_below hy))
    replace P := lh (P.out.below hy P.out.lt)
    replace XS := lh (XS.out.below hy XS.out.lt)
    replace XF := lh (XF.out.below hy XF.out.lt)
    replace XN := lh (XN.out.below hy XN.out.lt)
    replace X1 := lh (X1.out.below hy X1.out.lt)
    replace X2 := lh (X2.out.below hy X2.out.lt)
    replace X := lh (X.out.below hy X.out.lt)
    clear hy
    generalize W'.drew = Y3h0 at *
    refine tkA 0 (?_) ?_ ⟨XS.out, P.out, X.out, M.out⟩ ?_
    rotate_left
    · (intro w1 hS; obtain ⟨hS0, hS1, hS2, hS3⟩ := hS; have q := hS0.cell 0; go_simp; try with_reducible rfl)
    simp only [Act.put, tS1, tS2, tS3]
    refine tkA 1 (?_) ?_ ⟨XS.out, P.out, X.out, M.out⟩ ?_
    rotate_left
    · (intro w1 hS; go_simp; try with_reducible rfl)
    simp only [Act.put, tS1, tS2, tS3]
    refine tkA 2 (?_) ?_ ⟨XS.out, P.out, X.out, M.out⟩ ?_
    rotate_left
    · (intro w1 hS; go_simp; try with_reducible rfl)
    simp only [Act.put, tS1, tS2, tS3]
    refine tkA 3 (?_) ?_ ⟨XS.out, P.out, X.out, M.out⟩ ?_
    rotate_left
    · (intro w1 hS; obtain ⟨hS0, hS1, hS2, hS3⟩ := hS; have q := hS1.cell 1; go_simp; try with_reducible rfl)
    simp only [Act.put, tS1, tS2, tS3]
    refine tkA 4 (.agg (pcP y)) ?_ ⟨XS.out, P.out, X.out, M.out⟩ ?_
    · (intro w1 hS; obtain ⟨hS0, hS1, hS2, hS3⟩ := hS; exact exec_load 51 (.tmp 6) rfl _ rfl _ (run_blk_load (P := Try.prog) 51 (bp) _ hS2 Try.underlying51 rfl i51c))
    simp only [Act.put, tS1, tS2, tS3]
    refine tkA 5 (.tuple #[.agg #[], .bool (inS T y)]) ?_ ⟨XS.out, P.out, X.out, M.out⟩ ?_
    · (intro w1 hS; obtain ⟨hS0, hS1, hS2, hS3⟩ := hS; exact exec_lookupP (.tmp 15) (.tmp 16) rfl rfl y rfl hS3 KP.out HSM.out HX.out)
    simp only [Act.put, tS1, tS2, tS3]
    refine tkA 6 (?_) ?_ ⟨XS.out, P.out, X.out, M.out⟩ ?_
    rotate_left
    · (intro w1 hS; go_simp; try with_reducible rfl)
    simp only [Act.put, tS1, tS2, tS3]
    refine tkA 7 (?_) ?_ ⟨XS.out, P.out, X.out, M.out⟩ ?_
    rotate_left
    · (intro w1 hS; go_simp; try with_reducible rfl)
    simp only [Act.put, tS1, tS2, tS3]
    refine tkA 8 (?_) ?_ ⟨XS.out, P.out, X.out, M.out⟩ ?_
    rotate_left
    · (intro w1 hS; go_simp; try with_reducible rfl)
    simp only [Act.put, tS1, tS2, tS3]
    have hzz := KF.out.size
    have hz9 := zero151
    refine tkO 9 (fun KK hK => ?_)
    go_simp
    have pb := Blk.new Y3h0 151 #[]
    have hy := (Below.refl Y3h0.heap.size Y3h0).alloc (Nat.le_refl _) (.cells #[] 151)
    replace KB := lh (KB.out.trans (hy.mono (Nat.le_trans (by omega) KB.out.size)))
    replace O := lh (own_keep O.out hy)
    replace M := lh (Mp.below M.out hy M.out.lt)
    replace KF := lh (KF.out.trans (keepsF_below hy))
    replace P := lh (P.out.below hy P.out.lt)
    replace XS := lh (XS.out.below hy XS.out.lt)
    replace XF := lh (XF.out.below hy XF.out.lt)
    replace XN := lh (XN.out.below hy XN.out.lt)
    replace X1 := lh (X1.out.below hy X1.out.lt)
    replace X2 := lh (X2.out.below hy X2.out.lt)
    replace X := lh (X.out.below hy X.out.lt)
    obtain ⟨gZ, hgZ⟩ : ∃ g, g = Y3h0.heap.size := ⟨_, rfl⟩
    rw [← hgZ] at pb ⊢
    have Z := lh pb
    have HZ := lh hgZ
    clear pb hy hgZ
    generalize Y3h0.alloc (.cells #[] 151) = Y3h1 at *
    refine hK.out _ _ ⟨XS.out, P.out, X.out, M.out⟩ (fun _ => ?_)
    clear hK KK
    try simp only [Act.put, tS1, tS2, tS3]
    have hgz := HZ.out
    refine tkO 10 (fun KK hK => ?_)
    rw [if_pos (by rfl)]
    refine wp_blk_store 151 (.tmp 7) (.tmp 18) rfl #[] rfl rfl Z.out rfl i151 (by simp) ?_
    intro Y3h2 hA hF hB
    replace KB := lh (KB.out.trans (hB _ (by omega)))
    replace KF := lh (KF.out.trans (keepsF_store Z.out hF (hB 0 (Nat.zero_le _)).size))
    replace P := lh (show Blk _ _ _ _ from (hF _ (by omega)).trans P.out)
    replace O := lh (own_blk_store O.out Z.out (by decide) hF (hB 0 (Nat.zero_le _)).size)
    replace M := lh (Mp.same M.out (hF _ (by omega)))
    replace XS := lh (show Blk _ _ _ _ from (hF _ (by omega)).trans XS.out)
    replace XF := lh (show Blk _ _ _ _ from (hF _ (by omega)).trans XF.out)
    replace XN := lh (show Blk _ _ _ _ from (hF _ (by omega)).trans XN.out)
    replace X1 := lh (show Blk _ _ _ _ from (hF _ (by omega)).trans X1.out)
    replace X2 := lh (show Blk _ _ _ _ from (hF _ (by omega)).trans X2.out)
    replace X := lh (show Blk _ _ _ _ from (hF _ (by omega)).trans X.out)
    replace Z := lh hA
    clear hA hF hB
    refine hK.out _ _ ⟨XS.out, P.out, X.out, M.out⟩ (fun _ => ?_)
    clear hK KK
    try simp only [Act.put]
    refine tkA 11 (?_) ?_ ⟨XS.out, P.out, X.out, M.out⟩ ?_
    rotate_left
    · (intro w1 hS; go_simp; try with_reducible rfl)
    simp only [Act.put, tS1, tS2, tS3]
    refine wpAnyH_done (by kernel_rfl) ?_ _
    clear Z
    cases hin : inS T y with
    | true =>
      rw [add1_in hin] at HSN
      gi_wp2
      exact ⟨KF.out, HK0.out _ XN.out X1.out X2.out (by have := KF.out.size; omega), ⟨v, es, clk, P.out, by rw [HSN.out]; exact O.out, M.out, by rw [HSN.out]; exact KP.out⟩, KB.out, XS.out, XF.out, XN.out, X1.out, X2.out⟩
    | false =>
      rw [add1_out hin] at HSN
      gi_wp2_with fail
      refine wpIn_region_held_round (S := (fun w' : World => Blk w' (w.heap.size) 150 #[.pointer (some ⟨p, 0, none⟩)] ∧ Blk w' (p) 117 #[v, .map (some m)] ∧ Blk w' (bp) 51 (pcP y))) (by kernel_rfl) (by kernel_rfl) (fun ⟨_, _, h⟩ => h) ?_
      change wpAnyH _ _ _ _ _ _ _ _ Y3h2.drew
      have hy : Below Y3h2.heap.size Y3h2 Y3h2.drew := (Below.refl _ _).drew
      replace KB := lh (KB.out.trans (hy.mono (Nat.le_trans (by omega) KB.out.size)))
      replace O := lh (own_keep O.out hy)
      replace M := lh (Mp.below M.out hy M.out.lt)
      replace KF := lh (KF.out.trans (keepsF_below hy))
      replace P := lh (P.out.below hy P.out.lt)
      replace XS := lh (XS.out.below hy XS.out.lt)
      replace XF := lh (XF.out.below hy XF.out.lt)
      replace XN := lh (XN.out.below hy XN.out.lt)
      replace X1 := lh (X1.out.below hy X1.out.lt)
      replace X2 := lh (X2.out.below hy X2.out.lt)
      replace X := lh (X.out.below hy X.out.lt)
      clear hy
      generalize Y3h2.drew = Y5h0 at *
      refine tkA 0 (?_) ?_ ⟨XS.out, P.out, X.out⟩ ?_
      rotate_left
      · (intro w1 hS; obtain ⟨hS0, hS1, hS2⟩ := hS; have q := hS0.cell 0; go_simp; try with_reducible rfl)
      simp only [Act.put, tS1, tS2, tS3]
      refine tkA 1 (?_) ?_ ⟨XS.out, P.out, X.out⟩ ?_
      rotate_left
      · (intro w1 hS; go_simp; try with_reducible rfl)
      simp only [Act.put, tS1, tS2, tS3]
      refine tkA 2 (?_) ?_ ⟨XS.out, P.out, X.out⟩ ?_
      rotate_left
      · (intro w1 hS; go_simp; try with_reducible rfl)
      simp only [Act.put, tS1, tS2, tS3]
      refine tkA 3 (?_) ?_ ⟨XS.out, P.out, X.out⟩ ?_
      rotate_left
      · (intro w1 hS; obtain ⟨hS0, hS1, hS2⟩ := hS; have q := hS1.cell 1; go_simp; try with_reducible rfl)
      simp only [Act.put, tS1, tS2, tS3]
      refine tkA 4 (.agg (pcP y)) ?_ ⟨XS.out, P.out, X.out⟩ ?_
      · (intro w1 hS; obtain ⟨hS0, hS1, hS2⟩ := hS; exact exec_load 51 (.tmp 6) rfl _ rfl _ (run_blk_load (P := Try.prog) 51 (bp) _ hS2 Try.underlying51 rfl i51c))
      simp only [Act.put, tS1, tS2, tS3]
      refine tkA 5 (.agg #[]) ?_ ⟨XS.out, P.out, X.out⟩ ?_
      · (intro w1 hS; obtain ⟨hS0, hS1, hS2⟩ := hS; exact exec_build 151 #[] rfl #[] (by kernel_rfl) #[] (by kernel_rfl))
      simp only [Act.put, tS1, tS2, tS3]
      refine tkO 6 (fun KK hK => ?_)
      rw [if_pos (by rfl)]
      refine wp_mapP (.tmp 24) (.tmp 25) (.tmp 26) rfl rfl y rfl rfl M.out KP.out HSM.out HX.out hin ?_
      intro Y5h1 hm2 gr
      replace KB := lh (KB.out.grown gr (Nat.le_trans (by omega) KB.out.size) (fun k e => by cases e; exact Nat.le_refl _))
      replace KF := lh (KF.out.trans (KeepsFrom.of_grownBy gr (fun j e => by cases e; omega)))
      replace P := lh (show Blk _ _ _ _ from (gr.block _ P.out.lt (by simp; omega)).trans P.out)
      replace O := lh (own_grown O.out gr (.inl (fun e => own_ne_map O.out M.out e.symm)))
      replace XS := lh (show Blk _ _ _ _ from (gr.block _ XS.out.lt (by simp; omega)).trans XS.out)
      replace XF := lh (show Blk _ _ _ _ from (gr.block _ XF.out.lt (by simp; omega)).trans XF.out)
      replace XN := lh (show Blk _ _ _ _ from (gr.block _ XN.out.lt (by simp; omega)).trans XN.out)
      replace X1 := lh (show Blk _ _ _ _ from (gr.block _ X1.out.lt (by simp; omega)).trans X1.out)
      replace X2 := lh (show Blk _ _ _ _ from (gr.block _ X2.out.lt (by simp; omega)).trans X2.out)
      replace X := lh (show Blk _ _ _ _ from (gr.block _ X.out.lt (by simp; omega)).trans X.out)
      replace M := lh hm2
      replace KP := lh (keysP_snoc KP.out y fr clk)
      clear hm2 gr
      refine hK.out _ _ ⟨XS.out, P.out, X.out⟩ (fun _ => ?_)
      clear hK KK
      try simp only [Act.put]
      refine wpAnyH_done (by kernel_rfl) ?_ _
      gi_wp2_with fail
      refine wpIn_region_held_last_round (k := 12) (S := (fun w' : World => Blk w' (w.heap.size) 150 #[.pointer (some ⟨p, 0, none⟩)] ∧ Blk w' (w.heap.size + 1) 3 #[.int .i64 fr] ∧ Blk w' (p) 117 #[v, .map (some m)] ∧ Blk w' (bp) 51 (pcP y))) (by kernel_rfl) (by kernel_rfl) (fun ⟨_, _, h⟩ => h) (by kernel_rfl) ?_
      simp only [List.pop_toArray, List.dropLast_cons_cons, List.dropLast_singleton]
      change wpAnyH _ _ _ _ _ _ _ _ Y5h1.drew
      have hy : Below Y5h1.heap.size Y5h1 Y5h1.drew := (Below.refl _ _).drew
      replace KB := lh (KB.out.trans (hy.mono (Nat.le_trans (by omega) KB.out.size)))
      replace O := lh (own_keep O.out hy)
      replace M := lh (Mp.below M.out hy M.out.lt)
      replace KF := lh (KF.out.trans (keepsF_below hy))
      replace P := lh (P.out.below hy P.out.lt)
      replace XS := lh (XS.out.below hy XS.out.lt)
      replace XF := lh (XF.out.below hy XF.out.lt)
      replace XN := lh (XN.out.below hy XN.out.lt)
      replace X1 := lh (X1.out.below hy X1.out.lt)
      replace X2 := lh (X2.out.below hy X2.out.lt)
      replace X := lh (X.out.below hy X.out.lt)
      clear hy
      generalize Y5h1.drew = Y6h0 at *
      refine tkA 0 (?_) ?_ ⟨XS.out, XF.out, P.out, X.out⟩ ?_
      rotate_left
      · (intro w1 hS; obtain ⟨hS0, hS1, hS2, hS3⟩ := hS; have q := hS0.cell 0; go_simp; try with_reducible rfl)
      simp only [Act.put, tS1, tS2, tS3]
      refine tkA 1 (?_) ?_ ⟨XS.out, XF.out, P.out, X.out⟩ ?_
      rotate_left
      · (intro w1 hS; obtain ⟨hS0, hS1, hS2, hS3⟩ := hS; have q := hS0.cell 0; go_simp; try with_reducible rfl)
      simp only [Act.put, tS1, tS2, tS3]
      refine tkA 2 (?_) ?_ ⟨XS.out, XF.out, P.out, X.out⟩ ?_
      rotate_left
      · (intro w1 hS; go_simp; try with_reducible rfl)
      simp only [Act.put, tS1, tS2, tS3]
      refine tkA 3 (?_) ?_ ⟨XS.out, XF.out, P.out, X.out⟩ ?_
      rotate_left
      · (intro w1 hS; go_simp; try with_reducible rfl)
      simp only [Act.put, tS1, tS2, tS3]
      refine tkA 4 (?_) ?_ ⟨XS.out, XF.out, P.out, X.out⟩ ?_
      rotate_left
      · (intro w1 hS; obtain ⟨hS0, hS1, hS2, hS3⟩ := hS; have q := hS2.cell 0; go_simp; try with_reducible rfl)
      simp only [Act.put, tS1, tS2, tS3]
      refine tkA 5 (.agg (pcP y)) ?_ ⟨XS.out, XF.out, P.out, X.out⟩ ?_
      · (intro w1 hS; obtain ⟨hS0, hS1, hS2, hS3⟩ := hS; exact exec_load 51 (.tmp 6) rfl _ rfl _ (run_blk_load (P := Try.prog) 51 (bp) _ hS3 Try.underlying51 rfl i51c))
      simp only [Act.put, tS1, tS2, tS3]
      refine tkA 6 (?_) ?_ ⟨XS.out, XF.out, P.out, X.out⟩ ?_
      rotate_left
      · (intro w1 hS; obtain ⟨hS0, hS1, hS2, hS3⟩ := hS; have q := hS1.cell 0; go_simp; try with_reducible rfl)
      simp only [Act.put, tS1, tS2, tS3]
      refine tkA 7 (.agg (stC (y, fr))) ?_ ⟨XS.out, XF.out, P.out, X.out⟩ ?_
      · (intro w1 hS; obtain ⟨hS0, hS1, hS2, hS3⟩ := hS; exact exec_build 120 #[(0, .tmp 32), (1, .tmp 33)] rfl #[(0, .agg (pcP y)), (1, .int .i64 fr)] (by kernel_rfl) (stC (y, fr)) (built120 y fr))
      simp only [Act.put, tS1, tS2, tS3]
      refine tkO 8 (fun KK hK => ?_)
      rw [if_pos (by rfl)]
      refine wp_one_blk 115 120 (.tmp 34) rfl (stC (y, fr)) #[.int .i64 0, .int .i64 0, .int .i64 0] 3 24 rfl Try.underlying115 info120 rfl rfl (by decide) ?_
      intro Y6h1 hn hy hs
      obtain ⟨gn, hgn⟩ : ∃ g, g = Y6h0.heap.size := ⟨_, rfl⟩
      replace KB := lh (KB.out.trans (hy.mono (Nat.le_trans (by omega) KB.out.size)))
      replace O := lh (own_keep O.out hy)
      replace M := lh (Mp.below M.out hy M.out.lt)
      replace KF := lh (KF.out.trans (keepsF_below hy))
      replace P := lh (P.out.below hy P.out.lt)
      replace XS := lh (XS.out.below hy XS.out.lt)
      replace XF := lh (XF.out.below hy XF.out.lt)
      replace XN := lh (XN.out.below hy XN.out.lt)
      replace X1 := lh (X1.out.below hy X1.out.lt)
      replace X2 := lh (X2.out.below hy X2.out.lt)
      replace X := lh (X.out.below hy X.out.lt)
      rw [← hgn] at hn hs ⊢
      have NB := lh hn
      have Hgn := lh hgn
      clear hn hy hgn hs
      refine hK.out _ _ ⟨XS.out, XF.out, P.out, X.out⟩ (fun _ => ?_)
      clear hK KK
      try simp only [Act.put, tS1, tS2, tS3]
      have hKs := KB.out.size
      refine tkO 9 (fun KK hK => ?_)
      rw [if_pos (by rfl)]
      refine wp_app_blk (.tmp 31) (.tmp 35) 115 120 rfl (stC (y, fr)) #[.int .i64 0, .int .i64 0, .int .i64 0] 3 24 Try.underlying115 info120 rfl rfl (by decide) (stC_all _) b v _ _ rfl O.out gn rfl NB.out (by omega) (by omega) ?_
      intro g' c' Y6h2 ho gr
      replace KB := lh (KB.out.grown gr (Nat.le_trans (by omega) hKs) (fun k e => by have := (own_lt O.out e).1; omega))
      replace KF := lh (KF.out.trans (keepsF_row O.out gr))
      replace P := lh (show Blk _ _ _ _ from (gr.block _ P.out.lt (Ne.symm (own_ne O.out P.out (by decide)))).trans P.out)
      replace M := lh (Mp.same M.out (gr.block _ M.out.lt (Ne.symm (own_ne_map O.out M.out))))
      replace XS := lh (show Blk _ _ _ _ from (gr.block _ XS.out.lt (Ne.symm (own_ne O.out XS.out (by decide)))).trans XS.out)
      replace XF := lh (show Blk _ _ _ _ from (gr.block _ XF.out.lt (Ne.symm (own_ne O.out XF.out (by decide)))).trans XF.out)
      replace XN := lh (show Blk _ _ _ _ from (gr.block _ XN.out.lt (Ne.symm (own_ne O.out XN.out (by decide)))).trans XN.out)
      replace X1 := lh (show Blk _ _ _ _ from (gr.block _ X1.out.lt (Ne.symm (own_ne O.out X1.out (by decide)))).trans X1.out)
      replace X2 := lh (show Blk _ _ _ _ from (gr.block _ X2.out.lt (Ne.symm (own_ne O.out X2.out (by decide)))).trans X2.out)
      replace X := lh (show Blk _ _ _ _ from (gr.block _ X.out.lt (Ne.symm (own_ne O.out X.out (by decide)))).trans X.out)
      rw [← stcells_snoc, show T.length + 1 = (T ++ [(y, fr)]).length by simp] at ho
      replace O := lh ho
      clear ho gr NB hKs
      refine hK.out _ _ ⟨XS.out, XF.out, P.out, X.out⟩ (fun _ => ?_)
      clear hK KK
      try simp only [Act.put, tS1, tS2, tS3]
      refine tkA 10 (?_) ?_ ⟨XS.out, XF.out, P.out, X.out⟩ ?_
      rotate_left
      · (intro w1 hS; go_simp; try with_reducible rfl)
      simp only [Act.put, tS1, tS2, tS3]
      refine tkA 11 (?_) ?_ ⟨XS.out, XF.out, P.out, X.out⟩ ?_
      rotate_left
      · (intro w1 hS; go_simp; try with_reducible rfl)
      simp only [Act.put, tS1, tS2, tS3]
      refine wpAnyH_done (by kernel_rfl) ?_ _
      refine op_last ?_
      have k1 := P.out.cell 0
      have k2 := P.out.frozen 0
      go_simp
      replace KB := lh (KB.out.setCell (p := ⟨p, 0, none⟩) (by show _ ≤ p; omega) ((.slice (some ⟨g', 0, none⟩) (T.length + 1) c')))
      replace KF := lh (KF.out.trans ((KeepsOthers.setCell Y6h2 ⟨p, 0, none⟩ ((.slice (some ⟨g', 0, none⟩) (T.length + 1) c'))).from _))
      replace O := lh (own_far O.out (p := ⟨p, 0, none⟩) P.out (by decide) ((.slice (some ⟨g', 0, none⟩) (T.length + 1) c')))
      replace M := lh (Mp.far M.out (p := ⟨p, 0, none⟩) (by show _ ≠ p; omega) ((.slice (some ⟨g', 0, none⟩) (T.length + 1) c')))
      replace XS := lh (XS.out.far (p := ⟨p, 0, none⟩) (by show _ ≠ p; omega) ((.slice (some ⟨g', 0, none⟩) (T.length + 1) c')))
      replace XF := lh (XF.out.far (p := ⟨p, 0, none⟩) (by show _ ≠ p; omega) ((.slice (some ⟨g', 0, none⟩) (T.length + 1) c')))
      replace XN := lh (XN.out.far (p := ⟨p, 0, none⟩) (by show _ ≠ p; omega) ((.slice (some ⟨g', 0, none⟩) (T.length + 1) c')))
      replace X1 := lh (X1.out.far (p := ⟨p, 0, none⟩) (by show _ ≠ p; omega) ((.slice (some ⟨g', 0, none⟩) (T.length + 1) c')))
      replace X2 := lh (X2.out.far (p := ⟨p, 0, none⟩) (by show _ ≠ p; omega) ((.slice (some ⟨g', 0, none⟩) (T.length + 1) c')))
      replace X := lh (X.out.far (p := ⟨p, 0, none⟩) (by show _ ≠ p; omega) ((.slice (some ⟨g', 0, none⟩) (T.length + 1) c')))
      replace P := lh (show Blk _ _ 117 _ from P.out.set_ 0 ((.slice (some ⟨g', 0, none⟩) (T.length + 1) c')))
      clear k1 k2
      generalize Y6h2.setCell ⟨p, 0, none⟩ ((.slice (some ⟨g', 0, none⟩) (T.length + 1) c')) = Y6h3 at *
      try simp only [Act.put]
      gi_wp2
      exact ⟨KF.out, HK0.out _ XN.out X1.out X2.out (by have := KF.out.size; omega), ⟨.slice (some ⟨g', 0, none⟩) (T.length + 1) c', _, _, P.out, by rw [HSN.out]; have q := O.out; rw [show (T ++ [(y, fr)]).length = T.length + 1 by simp] at q ⊢; exact q, M.out, by rw [HSN.out]; exact KP.out⟩, KB.out, XS.out, XF.out, XN.out, X1.out, X2.out⟩
  case done =>
    rintro D ys Wn hD hys hI hK
    subst hys
    rw [map_getD_range] at hI
    have HII := lh hI
    have HBZ := lh (belowK_b (w := W) (Nat.le_refl _) Wn D _ (.deferred none) (by omega) hK rfl rfl)
    have HOW := lh (SS.own (p := p) (m := m) (b := b) (B := W.heap.size) (by omega))
    subst hact
    clear CP hF h1 h2 FW h1W h2W xS xF sW hql hI
    gi_wp2
    refine ⟨by simp, .inl ⟨_, _, rfl, run_takeDeferred hK, ?_⟩⟩
    refine ⟨_, results_none rfl _ _ _, rfl, HOW.out _ _ _ (some D) HII.out.1 (grownBy_putObj' _ _ _) (fun r e => by cases e; exact ⟨hD, _, hK, rfl⟩), HII.out.2.1.trans (HBZ.out.mono (by omega))⟩
  case stop =>
    rintro D cd l Wn hD hl hf hK
    exact hf.elim
end Go.Proofs.Ythldpnifodbheaa
namespace Go.Proofs.Ythldpnifodbheaa
open Go.RowKit Go.Lib
def RG (W : World) (g n : Nat) (f : Nat → Pl) : Prop :=
  ∃ cur, Blk W g 51 cur ∧ n * 2 ≤ cur.size ∧ ∀ i, i < n → cur[i * 2]? = some (.int .i64 ((f i).1 : Int)) ∧ cur[i * 2 + 1]? = some (.int .i64 ((f i).2 : Int))
theorem RG.below {W W' : World} {b g n : Nat} {f : Nat → Pl} (h : RG W g n f) (hb : Below b W W') (hg : g < b) : RG W' g n f := by
  obtain ⟨cur, hB, hc⟩ := h
  exact ⟨cur, hB.below hb hg, hc⟩
theorem RG.same {W W' : World} {g n : Nat} {f : Nat → Pl} (h : RG W g n f) (e : W'.heap[g]? = W.heap[g]?) : RG W' g n f := by
  obtain ⟨cur, hB, hc⟩ := h
  exact ⟨cur, e.trans hB, hc⟩
theorem RG.lt {W : World} {g n : Nat} {f : Nat → Pl} (h : RG W g n f) : g < W.heap.size := by
  obtain ⟨cur, hB, hc⟩ := h
  exact hB.lt
theorem RG.load {W : World} {g n i : Nat} {f : Nat → Pl} (h : RG W g n f) (hi : i < n) : (loadVar 51 ⟨g, i * 2, none⟩).run Try.prog W = .ok (.agg (pcP (f i))) W := by
  obtain ⟨cur, hB, hs, hc⟩ := h
  exact load_pl hB (f i) (hc i hi).1 (hc i hi).2
theorem RG.conv {W : World} {g n : Nat} {f f' : Nat → Pl} (h : RG W g n f) (e : ∀ i, i < n → f' i = f i) : RG W g n f' := by
  obtain ⟨cur, hB, hs, hc⟩ := h
  exact ⟨cur, hB, hs, fun i hi => by rw [e i hi]; exact hc i hi⟩
theorem RG.of_own {W : World} {base : Nat} {v : Value} {L : List Pl} (h : W.ownsRow base 51 2 v L.length (pcells L)) (hn : 0 < L.length) : ∃ g cap, base ≤ g ∧ v = .slice (some ⟨g, 0, none⟩) L.length cap ∧ RG W g L.length (fun i => L.getD i (0, 0)) := by
  have hb := h
  obtain ⟨g, cap, cur, e, hB, hc⟩ := row_blk h hn
  subst e
  refine ⟨g, cap, (own_lt hb (g := g) rfl).1, rfl, cur, hB, ?_, fun i hi => ?_⟩
  · obtain ⟨h1, h2⟩ := pcells_get L (L.length - 1) (by omega)
    have := (Array.getElem?_eq_some_iff.1 (hc _ _ h2)).1
    omega
  · obtain ⟨h1, h2⟩ := pcells_get L i hi
    exact ⟨hc _ _ h1, hc _ _ h2⟩
theorem RG.put {W' : World} {g n i : Nat} {f : Nat → Pl} {cur : Array Value} (hs : n * 2 ≤ cur.size) (hc : ∀ i, i < n → cur[i * 2]? = some (.int .i64 ((f i).1 : Int)) ∧ cur[i * 2 + 1]? = some (.int .i64 ((f i).2 : Int))) (hi : i < n) (x : Pl) (h : Blk W' g 51 (setL cur (i * 2) (pcP x).toList)) :
    RG W' g n (fun k => if k = i then x else f k) := by
  refine ⟨_, h, by rw [setL_size]; exact hs, fun k hk => ?_⟩
  rw [setL_get, setL_get]
  have hl : (pcP x).toList.length = 2 := rfl
  by_cases e : k = i
  · subst e
    rw [if_pos ⟨by omega, by omega, by omega⟩, if_pos ⟨by omega, by omega, by omega⟩]
    rw [show k * 2 - k * 2 = 0 by omega, show k * 2 + 1 - k * 2 = 1 by omega]
    simp only [if_true]
    exact ⟨rfl, rfl⟩
  · rw [if_neg (by omega), if_neg (by omega)]
    simp only [if_neg e]
    exact hc k hk
theorem RG.store {P : Program} {w : World} {K : Act → World → Prop} {Q : Exit → Act → World → Prop} {g n i : Nat} {f : Nat → Pl} {op : Oper} {a : Act} (y z : Operand) (ho : op.op = .store 51 y z) (p : Pl)
    (hx : a.eval y = .pointer (some ⟨g, i * 2, none⟩)) (hy : a.eval z = .agg (pcP p)) (h : RG w g n f) (hi : i < n) (h51 : (P.info? 51).map (·.size) = some 2)
    (hK : ∀ w', RG w' g n (fun k => if k = i then p else f k) → Below g w w' → K (a.put op.dst undef) w') : op.wp P a w K Q := by
  obtain ⟨cur, hB, hs, hc⟩ := h
  exact wp_part_store 51 y z ho (i * 2) (pcP p) hx hy hB (by show _ + 2 ≤ _; omega) h51 (pcP_all p) fun w' h1 h2 h3 => hK w' (RG.put hs hc hi p h1) (h3 g (Nat.le_refl _))
theorem wp_val {P : Program} {o : Oper} {a : Act} {w : World} {K : Act → World → Prop} {Q : Exit → Act → World → Prop} {v : Value} (h : (execOp a.eval o).run P w = .ok (.value v) w) (hK : K (a.put o.dst v) w) : o.wp P a w K Q := by
  unfold Oper.wp
  rw [h]
  exact hK
def revF (n a b : Nat) (f : Nat → Pl) : Nat → Pl := fun k => if k < a ∨ b < k then f (n - 1 - k) else f k
set_option maxRecDepth 100000 in
set_option maxHeartbeats 4000000 in
theorem rev_any (g cap n : Nat) (f : Nat → Pl) (w : World) (h : RG w g n f) (hn : 0 < n) (hn2 : n ≤ 1000000) :
    Calls Try.prog 75 #[.slice (some ⟨g, 0, none⟩) n cap] w fun e w' => e = .returned (.tuple #[]) ∧ RG w' g n (fun k => f (n - 1 - k)) ∧ Below g w w' := by
  have K := lh (Below.refl g w)
  have RGX := lh (h.conv (f' := revF n 0 (n - 1) f) (fun i hi => by unfold revF; rw [if_neg (by omega)]))
  have w1 : IntKind.i64.wrap ((n : Int) - 1) = ((n - 1 : Nat) : Int) := by rw [IntKind.wrap_i64]; omega
  clear h
  go_enter Try.func75, Try.ntmps75
  go_wp2
  go_loopw [2, 3] (fun i j wr => ∃ a b : Nat, a + b + 1 = n ∧ i = .int .i64 (a : Int) ∧ j = .int .i64 (b : Int) ∧ Hid (RG wr g n (revF n a b f)) ∧ Hid (Below g w wr)) (fun i _ _ => n - (RowKit.intOf i).toNat)
  case atStart => exact ⟨0, n - 1, by omega, rfl, rfl, RGX, K⟩
  case round =>
    obtain ⟨a, b, hab, rfl, rfl, HR, Kr⟩ := hrel
    clear K RGX w1
    by_cases hlt : a < b
    · have d8 : decide ((a : Int) < (b : Int)) = true := decide_eq_true (by omega)
      have d9 : decide (a < b) = true := decide_eq_true hlt
      have w6 : IntKind.i64.wrap ((a : Int) + 1) = ((a + 1 : Nat) : Int) := by rw [IntKind.wrap_i64]; omega
      have w7 : IntKind.i64.wrap ((b : Int) - 1) = ((b - 1 : Nat) : Int) := by rw [IntKind.wrap_i64]; omega
      have hb2 : 0 ≤ (b : Int) ∧ (b : Int) < (n : Int) := by omega
      have hb3 : 0 ≤ (a : Int) ∧ (a : Int) < (n : Int) := by omega
      have han : a < n := by omega
      have hbn : b < n := by omega
      go_upto_region 3 with fail
      refine wp_region_held (S := (fun _ : World => True)) (by kernel_rfl) ?_
      change wpAnyH _ _ _ _ _ _ _ _ wr.drew
      have hy : Below wr.heap.size wr wr.drew := (Below.refl _ _).drew
      have hgl := HR.out.lt
      replace HR := lh (HR.out.below hy hgl)
      replace Kr := lh (Kr.out.trans (hy.mono (Nat.le_of_lt hgl)))
      clear hy hgl
      generalize wr.drew = Y0 at *
      refine tkA 0 (?_) ?_ trivial ?_
      rotate_left
      · (intro w1 hS; go_simp; try with_reducible rfl)
      simp only [Act.put, tS1, tS2, tS3]
      refine tkA 1 (?_) ?_ trivial ?_
      rotate_left
      · (intro w1 hS; go_simp; try with_reducible rfl)
      simp only [Act.put, tS1, tS2, tS3]
      refine tkA 2 (?_) ?_ trivial ?_
      rotate_left
      · (intro w1 hS; go_simp; try with_reducible rfl)
      simp only [Act.put, tS1, tS2, tS3]
      refine tkA 3 (?_) ?_ trivial ?_
      rotate_left
      · (intro w1 hS; go_simp; try with_reducible rfl)
      simp only [Act.put, tS1, tS2, tS3]
      refine tkA 4 (?_) ?_ trivial ?_
      rotate_left
      · (intro w1 hS; go_simp; try with_reducible rfl)
      simp only [Act.put, tS1, tS2, tS3]
      refine tkA 5 (?_) ?_ trivial ?_
      rotate_left
      · (intro w1 hS; go_simp; try with_reducible rfl)
      simp only [Act.put, tS1, tS2, tS3]
      refine tkA 6 (?_) ?_ trivial ?_
      rotate_left
      · (intro w1 hS; go_simp; try with_reducible rfl)
      simp only [Act.put, tS1, tS2, tS3]
      refine tkA 8 (?_) ?_ trivial ?_
      rotate_left
      · (intro w1 hS; go_simp; try with_reducible rfl)
      simp only [Act.put, tS1, tS2, tS3]
      refine tkA 9 (?_) ?_ trivial ?_
      rotate_left
      · (intro w1 hS; go_simp; try with_reducible rfl)
      simp only [Act.put, tS1, tS2, tS3]
      refine tkA 10 (?_) ?_ trivial ?_
      rotate_left
      · (intro w1 hS; go_simp; try with_reducible rfl)
      simp only [Act.put, tS1, tS2, tS3]
      have LA := lh (HR.out.load han)
      have LB := lh (HR.out.load hbn)
      refine tkB 7 11 (fun KK hK => ?_) (fun KK hK => ?_)
      · skip
        rw [if_pos (by rfl)]
        refine wp_val (exec_load 51 (.tmp 20) rfl _ rfl _ LB.out) ?_
        refine hK.out _ _ trivial (fun _ => ?_)
        clear hK KK
        simp only [Act.put, tS1, tS2, tS3]
        refine tkO 11 (fun KK hK => ?_)
        rw [if_pos (by rfl)]
        refine wp_val (exec_load 51 (.tmp 24) rfl _ rfl _ LA.out) ?_
        refine hK.out _ _ trivial (fun _ => ?_)
        clear hK KK
        simp only [Act.put, tS1, tS2, tS3]
        refine tkA 12 (?_) ?_ trivial ?_
        rotate_left
        · (intro w1 hS; go_simp; try with_reducible rfl)
        simp only [Act.put, tS1, tS2, tS3]
        refine tkO 13 (fun KK hK => ?_)
        rw [if_pos (by rfl)]
        refine HR.out.store (i := a) (.tmp 26) (.tmp 21) rfl _ rfl rfl han i51c ?_
        intro Y1 hr hb
        replace Kr := lh (Kr.out.trans hb)
        have HR1 := lh hr
        refine hK.out _ _ trivial (fun _ => ?_)
        clear hK KK hr hb
        simp only [Act.put]
        refine tkA 14 (?_) ?_ trivial ?_
        rotate_left
        · (intro w1 hS; go_simp; try with_reducible rfl)
        simp only [Act.put, tS1, tS2, tS3]
        refine tkO 15 (fun KK hK => ?_)
        rw [if_pos (by rfl)]
        refine HR1.out.store (i := b) (.tmp 27) (.tmp 25) rfl _ rfl rfl hbn i51c ?_
        intro Y2 hr hb
        replace Kr := lh (Kr.out.trans hb)
        have HR2 := lh hr
        refine hK.out _ _ trivial (fun _ => ?_)
        clear hK KK hr hb
        simp only [Act.put]
        refine wpAnyH_done (by kernel_rfl) ?_ _
        have HR3 : Hid (RG Y2 g n (revF n (a + 1) (b - 1) f)) := HR2.out.conv (fun k hk => by
          unfold revF
          by_cases e1 : k = b
          · subst e1; rw [if_pos (by omega), if_pos rfl, if_neg (by omega)]; congr 1; omega
          · by_cases e2 : k = a
            · subst e2; rw [if_pos (by omega), if_neg e1, if_pos rfl, if_neg (by omega)]; congr 1; omega
            · rw [if_neg e1, if_neg e2]
              by_cases e3 : k < a ∨ b < k
              · rw [if_pos e3, if_pos (by omega)]
              · rw [if_neg e3, if_neg (by omega)])
        clear HR HR1 HR2 LA LB
        go_wp2
        go_roundw
        case rel => exact ⟨a + 1, b - 1, by omega, by go_num, by go_num, HR3, Kr⟩
        case measure => simp [RowKit.intOf]; omega
      · skip
        rw [if_pos (by rfl)]
        refine wp_val (exec_load 51 (.tmp 24) rfl _ rfl _ LA.out) ?_
        refine hK.out _ _ trivial (fun _ => ?_)
        clear hK KK
        simp only [Act.put, tS1, tS2, tS3]
        refine tkO 7 (fun KK hK => ?_)
        rw [if_pos (by rfl)]
        refine wp_val (exec_load 51 (.tmp 20) rfl _ rfl _ LB.out) ?_
        refine hK.out _ _ trivial (fun _ => ?_)
        clear hK KK
        simp only [Act.put, tS1, tS2, tS3]
        refine tkA 12 (?_) ?_ trivial ?_
        rotate_left
        · (intro w1 hS; go_simp; try with_reducible rfl)
        simp only [Act.put, tS1, tS2, tS3]
        refine tkO 13 (fun KK hK => ?_)
        rw [if_pos (by rfl)]
        refine HR.out.store (i := a) (.tmp 26) (.tmp 21) rfl _ rfl rfl han i51c ?_
        intro Y1 hr hb
        replace Kr := lh (Kr.out.trans hb)
        have HR1 := lh hr
        refine hK.out _ _ trivial (fun _ => ?_)
        clear hK KK hr hb
        simp only [Act.put]
        refine tkA 14 (?_) ?_ trivial ?_
        rotate_left
        · (intro w1 hS; go_simp; try with_reducible rfl)
        simp only [Act.put, tS1, tS2, tS3]
        refine tkO 15 (fun KK hK => ?_)
        rw [if_pos (by rfl)]
        refine HR1.out.store (i := b) (.tmp 27) (.tmp 25) rfl _ rfl rfl hbn i51c ?_
        intro Y2 hr hb
        replace Kr := lh (Kr.out.trans hb)
        have HR2 := lh hr
        refine hK.out _ _ trivial (fun _ => ?_)
        clear hK KK hr hb
        simp only [Act.put]
        refine wpAnyH_done (by kernel_rfl) ?_ _
        have HR3 : Hid (RG Y2 g n (revF n (a + 1) (b - 1) f)) := HR2.out.conv (fun k hk => by
          unfold revF
          by_cases e1 : k = b
          · subst e1; rw [if_pos (by omega), if_pos rfl, if_neg (by omega)]; congr 1; omega
          · by_cases e2 : k = a
            · subst e2; rw [if_pos (by omega), if_neg e1, if_pos rfl, if_neg (by omega)]; congr 1; omega
            · rw [if_neg e1, if_neg e2]
              by_cases e3 : k < a ∨ b < k
              · rw [if_pos e3, if_pos (by omega)]
              · rw [if_neg e3, if_neg (by omega)])
        clear HR HR1 HR2 LA LB
        go_wp2
        go_roundw
        case rel => exact ⟨a + 1, b - 1, by omega, by go_num, by go_num, HR3, Kr⟩
        case measure => simp [RowKit.intOf]; omega
    · have d8 : decide ((a : Int) < (b : Int)) = false := decide_eq_false (by omega)
      have d9 : decide (a < b) = false := decide_eq_false hlt
      go_wp2
      refine bodyPost_end (results_none rfl _ _ _) rfl ?_
      exact ⟨rfl, HR.out.conv (fun k hk => by
        unfold revF
        by_cases e : k < a ∨ b < k
        · rw [if_pos e]
        · rw [if_neg e]; congr 1; omega), Kr.out⟩
def bkG (S : List Stp) : Nat → Int → List Pl
  | 0, _ => []
  | f + 1, z => if 0 ≤ z then (S.getD z.toNat ((0, 0), 0)).1 :: bkG S f (S.getD z.toNat ((0, 0), 0)).2 else []
def bkL (S : List Stp) (n : Nat) : List Pl := bkG S S.length (n : Int)
def frS (S : List Stp) : Prop := ∀ i, i < S.length → -1 ≤ (S.getD i ((0, 0), 0)).2 ∧ (S.getD i ((0, 0), 0)).2 < (i : Int)
theorem bkG_neg (S : List Stp) (f : Nat) : bkG S f (-1) = [] := by cases f <;> rfl
theorem bkG_step (S : List Stp) (f z : Nat) (h : z < f) : bkG S f (z : Int) = (S.getD z ((0, 0), 0)).1 :: bkG S (f - 1) (S.getD z ((0, 0), 0)).2 := by
  cases f with
  | zero => omega
  | succ f =>
    conv => lhs; unfold bkG
    rw [if_pos (by omega)]
    rfl
theorem row120 {W : World} {b : Nat} {v : Value} {S : List Stp} (h : W.ownsRow b 120 3 v S.length (stcells S)) (hn : 0 < S.length) :
    ∃ g cap cur, v = .slice (some ⟨g, 0, none⟩) S.length cap ∧ Blk W g 120 cur ∧ ∀ i, i < S.length → cur[i * 3]? = some (.int .i64 ((S.getD i ((0, 0), 0)).1.1 : Int)) ∧ cur[i * 3 + 1]? = some (.int .i64 ((S.getD i ((0, 0), 0)).1.2 : Int)) ∧ cur[i * 3 + 2]? = some (.int .i64 (S.getD i ((0, 0), 0)).2) := by
  obtain ⟨g, cap, cur, e, hB, hc⟩ := row_blk h hn
  refine ⟨g, cap, cur, e, hB, fun i hi => ?_⟩
  obtain ⟨h1, h2, h3⟩ := stcells_get S i hi
  exact ⟨hc _ _ h1, hc _ _ h2, hc _ _ h3⟩
theorem load_st {W : World} {g i : Nat} {cur : Array Value} (h : Blk W g 120 cur) (x : Pl) (h0 : cur[i * 3]? = some (.int .i64 (x.1 : Int))) (h1 : cur[i * 3 + 1]? = some (.int .i64 (x.2 : Int))) :
    (loadVar 51 ⟨g, i * 3, none⟩).run Try.prog W = .ok (.agg (pcP x)) W :=
  run_loadVar_mid (P := Try.prog) W g (i * 3) 51 [.int .i64 (x.1 : Int), .int .i64 (x.2 : Int)] _ (fun j v hj => by
    rw [h.cell]
    have hj2 : j < 2 := (List.getElem?_eq_some_iff.1 hj).1
    match j, hj2, hj with
    | 0, _, hj => cases hj; exact h0
    | 1, _, hj => cases hj; exact h1) Try.underlying51 rfl i51c
set_option maxRecDepth 100000 in
set_option maxHeartbeats 4000000 in
theorem back_any (p m b : Nat) (S : List Stp) (n : Nat) (hn : n < S.length) (hfr : frS S) (hln : S.length ≤ 900000) (w : World) (h : SS p m b S w) :
    Calls Try.prog 52 #[.pointer (some ⟨p, 0, none⟩), .int .i64 (n : Int)] w fun e w' => ∃ g cap, w.heap.size ≤ g ∧ e = .returned (.slice (some ⟨g, 0, none⟩) (bkL S n).length cap) ∧ RG w' g (bkL S n).length (fun k => (bkL S n).getD ((bkL S n).length - 1 - k) (0, 0)) ∧ Below w.heap.size w w' := by
  have K := lh (Below.refl w.heap.size w)
  obtain ⟨vs, es, clk, hP, hO, hM, hk⟩ := h
  obtain ⟨gs, cap, cur, rfl, hB, hc⟩ := row120 hO (by omega)
  have P := lh hP
  have RB := lh hB
  have hpl := hP.lt
  have hgl := hB.lt
  have HC := lh hc
  have FR := lh hfr
  obtain ⟨L, hL⟩ : ∃ L, L = bkL S n := ⟨_, rfl⟩
  have HL := lh hL
  have hL0 : 0 < L.length := by rw [hL]; unfold bkL; rw [bkG_step S _ n hn]; simp
  rw [← hL]
  obtain ⟨N, hN⟩ : ∃ N, N = S.length := ⟨_, rfl⟩
  have CR := lh (fun (g cap : Nat) W (h : RG W g L.length (fun i => L.getD i (0, 0))) (h2 : L.length ≤ 1000000) => rev_any g cap L.length _ W h hL0 h2)
  rw [← hN] at P hn hln
  have HN := lh hN
  clear hP hO hM hk hB hc hfr hL hN
  go_enter Try.func52, Try.ntmps52
  go_wp2
  go_loopw [1, 5] (fun i v wr => ∃ (z : Int) (acc : List Pl) (f : Nat), i = .int .i64 z ∧ -1 ≤ z ∧ z < (N : Int) ∧ z < (f : Int) ∧ (acc.length : Int) + z ≤ n ∧ Hid (acc ++ bkG S f z = L) ∧ Hid (wr.ownsRow w.heap.size 51 2 v acc.length (pcells acc)) ∧ Hid (Below w.heap.size w wr)) (fun i _ _ => ((RowKit.intOf i) + 1).toNat)
  case atStart => exact ⟨(n : Int), [], N, rfl, by omega, by omega, by omega, by simp, lh (by rw [HL.out, HN.out]; rfl), lh (World.ownsRow_nil _ _ _ _), K⟩
  case round =>
    obtain ⟨z, acc, f, rfl, hz1, hz2, hzf, hal, HA, HV, Kr⟩ := hrel
    clear K
    by_cases hz : z = -1
    · subst hz
      have HE : Hid (acc = L) := by have := HA.out; rw [bkG_neg, List.append_nil] at this; exact this
      have hv := HV.out
      rw [HE.out] at hv
      obtain ⟨g, cap', hg1, hg2, hg3⟩ := RG.of_own hv hL0
      subst hg2
      have hL2 : L.length ≤ 1000000 := by rw [← HE.out]; omega
      have CR2 := lh (CR.out g cap' wr hg3 hL2)
      clear hv hg3 HV CR
      go_wp2_with fail
      refine CR2.out.mono ?_
      rintro e V ⟨rfl, hr, hb⟩
      have HR := lh hr
      have Kz := lh (Kr.out.trans (hb.mono hg1))
      clear hr hb CR2
      go_wp2
      go_ret
      exact ⟨g, cap', hg1, rfl, HR.out, Kz.out⟩
    · obtain ⟨j, rfl⟩ : ∃ j : Nat, z = (j : Int) := ⟨z.toNat, by omega⟩
      have d1 : decide ((j : Int) = -1) = false := decide_eq_false (by omega)
      have d2 : ((j : Int) == -1) = false := by simp
      have d3 : ((j : Int) != -1) = true := by simp
      have hb2 : 0 ≤ (j : Int) ∧ (j : Int) < (N : Int) := by omega
      have hjN : j < N := by omega
      obtain ⟨q0, q1, q2⟩ := HC.out j (by rw [← HN.out]; exact hjN)
      obtain ⟨r1, r2⟩ := FR.out j (by rw [← HN.out]; exact hjN)
      have HA2 := lh (bkG_step S f j (by omega))
      have Pr := lh (P.out.below Kr.out hpl)
      have Br := lh (RB.out.below Kr.out hgl)
      have L1 := lh (load_st Br.out _ q0 q1)
      generalize (S.getD j ((0, 0), 0)).1 = x at *
      generalize (S.getD j ((0, 0), 0)).2 = y at *
      have c0 := Pr.out.cell 0
      have c2 : wr.cell? ⟨gs, j * 3 + 2, none⟩ = some (.int .i64 y) := (Br.out.cell _).trans q2
      clear q0 q1 q2
      have hsz := Kr.out.size
      have hal2 := (Below.refl wr.heap.size wr).alloc (Nat.le_refl _) (.cells #[.int .i64 (x.1 : Int), .int .i64 (x.2 : Int)] 51)
      have NB := lh (Blk.new wr 51 #[.int .i64 (x.1 : Int), .int .i64 (x.2 : Int)])
      have HV1 := lh (own_keep HV.out hal2)
      have Kr1 := lh (Kr.out.trans (hal2.mono Kr.out.size))
      unfold pcP at L1
      obtain ⟨av, kv, rfl⟩ := row_shape HV.out
      clear hal2
      go_wp2_with (first | ((with_reducible refine wpList_load_want (op := ⟨some 24, .load 51 (.tmp 23), _, _, _, _⟩) ?wg1 51 (.tmp 23) ?wo1 ⟨gs, j * 3, none⟩ ?wx1 (.agg #[.int .i64 (x.1 : Int), .int .i64 (x.2 : Int)]) L1.out ?_); (case wg1 => rfl); (case wo1 => rfl); (case wx1 => rfl)) | (at_builtin; refine wpList_app_blk (by rfl) (.tmp 16) (.tmp 25) 75 51 rfl (pcP x) #[.int .i64 0, .int .i64 0] 2 16 Try.underlying75 info51 rfl rfl (by decide) (pcP_all x) w.heap.size _ _ _ rfl HV1.out wr.heap.size rfl NB.out (by omega) Kr1.out.size ?_; intro g' c' w2 ho2 gr2; have HV2 := lh ho2; have Kr2 := lh (Kr1.out.grown gr2 Kr1.out.size (fun k e => (own_lt HV1.out e).1)); have c0c := ((P.out.below Kr2.out hpl).cell 0); have c2c : w2.cell? ⟨gs, j * 3 + 2, none⟩ = some (.int .i64 y) := ((RB.out.below Kr2.out hgl).cell _).trans ((Br.out.cell _).symm.trans c2); clear ho2 gr2))
      go_roundw
      case rel => exact ⟨y, acc ++ [x], f - 1, rfl, r1, by omega, by omega, by rw [List.length_append, List.length_singleton]; omega, lh (by rw [List.append_assoc, List.singleton_append, ← HA2.out]; exact HA.out), lh (by rw [List.length_append, List.length_singleton, pcells_append]; exact HV2.out), Kr2⟩
      case measure => simp [RowKit.intOf]; omega
end Go.Proofs.Ythldpnifodbheaa
namespace Go.Proofs.Ythldpnifodbheaa
open Go.RowKit Go.Lib
def srN (cf : Cf) (c : Nat → Option Se) : Nat → List Stp → Nat → Option (List Pl)
  | 0, _, _ => none
  | f + 1, S, n => if n < S.length then
      (match lkN cf.st.toNat cf.sz.toNat c (S.getD n ((0, 0), 0)).1 with
        | none => some (bkL S n).reverse
        | some s => srN cf c f (addS (n : Int) S (plL cf s.k)) (n + 1))
    else none
theorem srN_end (cf : Cf) (c : Nat → Option Se) (f n : Nat) (S : List Stp) (h : S.length ≤ n) : srN cf c f S n = none := by
  cases f with
  | zero => rfl
  | succ f => unfold srN; rw [if_neg (by omega)]
theorem srN_free (cf : Cf) (c : Nat → Option Se) (f n : Nat) (S : List Stp) (h : n < S.length) (hf : 0 < f) (hl : lkN cf.st.toNat cf.sz.toNat c (S.getD n ((0, 0), 0)).1 = none) : srN cf c f S n = some (bkL S n).reverse := by
  cases f with
  | zero => omega
  | succ f => unfold srN; rw [if_pos h, hl]
theorem srN_on (cf : Cf) (c : Nat → Option Se) (f n : Nat) (S : List Stp) (s : Se) (h : n < S.length) (hf : 0 < f) (hl : lkN cf.st.toNat cf.sz.toNat c (S.getD n ((0, 0), 0)).1 = some s) : srN cf c f S n = srN cf c (f - 1) (addS (n : Int) S (plL cf s.k)) (n + 1) := by
  cases f with
  | zero => omega
  | succ f => conv => lhs; unfold srN
              rw [if_pos h, hl]; rfl
def inB (cf : Cf) (S : List Stp) : Prop := ∀ x ∈ S, x.1.1 < cf.st.toNat ∧ x.1.2 < cf.sz.toNat
theorem plL_inB (cf : Cf) (hok : okC cf = true) (k : Fl) : ∀ p ∈ plL cf k, p.1 < cf.st.toNat ∧ p.2 < cf.sz.toNat := by
  intro p hp
  cases h : vK k with
  | false => rw [plL_no h] at hp; cases hp
  | true =>
    rw [plL_yes h, List.mem_map] at hp
    obtain ⟨s, hs, rfl⟩ := hp
    exact ⟨List.mem_range.1 hs, plN_sz cf k hok s⟩
theorem add1_mem {fr : Int} {S : List Stp} {p : Pl} {x : Stp} (h : x ∈ add1 fr S p) : x ∈ S ∨ x = (p, fr) := by
  unfold add1 at h
  split at h
  · exact .inl h
  · rw [List.mem_append] at h
    rcases h with h | h
    · exact .inl h
    · exact .inr (by simpa using h)
theorem addS_inB (cf : Cf) (fr : Int) (L : List Pl) (S : List Stp) (h : inB cf S) (hL : ∀ p ∈ L, p.1 < cf.st.toNat ∧ p.2 < cf.sz.toNat) : inB cf (addS fr S L) := by
  induction L generalizing S with
  | nil => exact h
  | cons p L ih =>
    refine ih _ (fun x hx => ?_) fun q hq => hL q (List.mem_cons_of_mem _ hq)
    rcases add1_mem hx with hx | rfl
    · exact h x hx
    · exact hL p (List.mem_cons_self ..)
theorem add1_long (fr : Int) (S : List Stp) (p : Pl) : S.length ≤ (add1 fr S p).length := by unfold add1; split <;> simp
theorem addS_long (fr : Int) (L : List Pl) (S : List Stp) : S.length ≤ (addS fr S L).length := by
  induction L generalizing S with
  | nil => exact Nat.le_refl _
  | cons p L ih => exact Nat.le_trans (add1_long fr S p) (ih _)
theorem add1_fr (fr : Int) (S : List Stp) (p : Pl) (h : frS S) (h1 : -1 ≤ fr) (h2 : fr < (S.length : Int)) : frS (add1 fr S p) := by
  unfold add1
  split
  · exact h
  · intro i hi
    rw [List.length_append, List.length_singleton] at hi
    by_cases e : i < S.length
    · have : (S ++ [(p, fr)]).getD i ((0, 0), 0) = S.getD i ((0, 0), 0) := by
        rw [List.getD_eq_getElem?_getD, List.getD_eq_getElem?_getD, List.getElem?_append_left e]
      rw [this]
      exact h i e
    · obtain rfl : i = S.length := by omega
      have : (S ++ [(p, fr)]).getD S.length ((0, 0), 0) = (p, fr) := by
        rw [List.getD_eq_getElem?_getD, List.getElem?_append_right (Nat.le_refl _), Nat.sub_self]; rfl
      rw [this]
      exact ⟨h1, h2⟩
theorem addS_fr (fr : Int) (L : List Pl) (S : List Stp) (h : frS S) (h1 : -1 ≤ fr) (h2 : fr < (S.length : Int)) : frS (addS fr S L) := by
  induction L generalizing S with
  | nil => exact h
  | cons p L ih =>
    have := add1_long fr S p
    exact ih _ (add1_fr fr S p h h1 h2) (by omega)
theorem rev_getD (L : List Pl) (k : Nat) (h : k < L.length) : L.reverse.getD k (0, 0) = L.getD (L.length - 1 - k) (0, 0) := by
  rw [List.getD_eq_getElem?_getD, List.getElem?_reverse h, ← List.getD_eq_getElem?_getD]
theorem plL_smm (cf : Cf) (hok : okC cf = true) (k : Fl) : ∀ p ∈ plL cf k, smP p := by
  intro p hp
  obtain ⟨i, hi, rfl⟩ := List.mem_iff_getElem.1 hp
  have := plL_sm cf hok k i
  rwa [List.getD_eq_getElem?_getD, List.getElem?_eq_getElem hi] at this
theorem in_lk {cf : Cf} {x : Pl} (h : x.1 < cf.st.toNat ∧ x.2 < cf.sz.toNat) : decide (inP cf.st.toNat cf.sz.toNat (x.1 : Int) (x.2 : Int)) = true := by
  refine decide_eq_true ?_
  unfold inP
  omega
theorem inB_get {cf : Cf} {S : List Stp} (h : inB cf S) {n : Nat} (hn : n < S.length) : (S.getD n ((0, 0), 0)).1.1 < cf.st.toNat ∧ (S.getD n ((0, 0), 0)).1.2 < cf.sz.toNat := by
  rw [List.getD_eq_getElem?_getD, List.getElem?_eq_getElem hn]
  exact h _ (List.getElem_mem hn)
theorem SS.start {W : World} {p m b : Nat} (h1 : Blk W p 117 #[.slice none 0 0, .map (some m)]) (h2 : Mp W m #[] 0) : SS p m b [] W := ⟨_, _, _, h1, World.ownsRow_nil _ _ _ _, h2, keysP_nil⟩
theorem SS.low {W W' : World} {p m b B : Nat} {S : List Stp} (h : SS p m b S W) (hb : Below B W W') (hB : W.heap.size ≤ B) : SS p m b S W' := by
  obtain ⟨v, es, clk, q1, q2, q3, q4⟩ := h
  have hb2 := hb.mono hB
  exact ⟨v, es, clk, q1.below hb2 q1.lt, own_keep q2 hb2, Mp.below q3 hb2 q3.lt, q4⟩
theorem bkG_len (S : List Stp) (h : frS S) (f : Nat) : ∀ (z : Int), z < (S.length : Int) → ((bkG S f z).length : Int) ≤ z + 1 ∨ z < -1 := by
  induction f with
  | zero => intro z _; by_cases h : z < -1; exact .inr h; exact .inl (by show (0 : Int) ≤ _; omega)
  | succ f ih =>
    intro z hz
    unfold bkG
    split
    · rename_i h0
      obtain ⟨h1, h2⟩ := h z.toNat (by omega)
      refine .inl ?_
      rw [List.length_cons]
      rcases ih (S.getD z.toNat ((0, 0), 0)).2 (by omega) with h3 | h3 <;> omega
    · rename_i h0
      by_cases h : z < -1
      · exact .inr h
      · exact .inl (by show (0 : Int) ≤ _; omega)
theorem bkL_len (S : List Stp) (n : Nat) (h : frS S) (hn : n < S.length) : (bkL S n).length ≤ n + 1 := by
  rcases bkG_len S h S.length (n : Int) (by omega) with h1 | h1
  · unfold bkL; omega
  · omega
end Go.Proofs.Ythldpnifodbheaa
namespace Go.Proofs.Ythldpnifodbheaa
open Go.RowKit Go.Shelf
attribute [local go_sem] Oper.semAt_some
theorem okC_ev {c : Cf} (h : okC c = true) : 1 ≤ c.ev ∧ c.ev ≤ 64 := by
  unfold okC wi at h
  simp only [Bool.and_eq_true, decide_eq_true_iff] at h
  omega
theorem zero117 (W : World) : (zeroValue 117).run Try.prog W = .ok (.agg #[.slice none 0 0, .map none]) W := by kernel_rfl
set_option maxRecDepth 100000 in
set_option maxHeartbeats 4000000 in
theorem way_any (tn fn B : Nat) (cf : Cf) (c : Nat → Option Se) (hc : cf.Fit) (hok : okC cf = true) (k : Fl) (hk : k.Fit) (w : World) (h : TS tn fn B cf c w) :
    Calls Try.prog 27 #[.pointer (some ⟨tn, 0, none⟩), .agg k.cs] w fun e w' => Below w.heap.size w w' ∧
      ((srN cf c cf.ev.toNat (addS (-1) [] (plL cf k)) 0 = none ∧ e = .returned (.slice none 0 0)) ∨
       ∃ R g cap, srN cf c cf.ev.toNat (addS (-1) [] (plL cf k)) 0 = some R ∧ 0 < R.length ∧ R.length ≤ 64 ∧ w.heap.size ≤ g ∧ e = .returned (.slice (some ⟨g, 0, none⟩) R.length cap) ∧ RG w' g R.length (fun i => R.getD i (0, 0))) := by
  have hl4 := fun (k : Fl) => plL_le cf k hok
  have CPL := lh (fun (k : Fl) W => places_any (some ⟨fn, 0, none⟩) k.cs W)
  have IKK := lh (fun (k : Fl) (hk : k.Fit) => fl_ik k hk)
  have CAD := lh (fun (p m b : Nat) (S : List Stp) (fr : Int) (gI : Nat) (k : Fl) (hk : k.Fit) W (h1 : Blk W fn 110 (famC cf)) h2 h3 hS hsm hln hmp hpb hb =>
    add_any p m b S fr gI fn (plL cf k) k.cs (famC cf) (IKK.out k hk) (hl4 k) W (fun s W h => place_any cf hc hok k hk fn s W h) h1 h2 h3 hS hsm (fun i => plL_sm cf hok k i) hln hmp hpb hb)
  have CBK := lh (fun (p m b : Nat) (S : List Stp) (n : Nat) hn hfr hln W hS => back_any p m b S n hn hfr hln W hS)
  have CFR := lh (fun (x : Pl) W h1 => free_any tn fn B cf c x W h1)
  have COW := lh (fun (x : Pl) W h1 => owner_any tn fn B cf c x W h1)
  have PIN := lh (plL_inB cf hok)
  have PSM := lh (plL_smm cf hok)
  have PLE := lh hl4
  have hev : 1 ≤ cf.ev ∧ cf.ev ≤ 64 := okC_ev hok
  obtain ⟨EV, hEV⟩ : ∃ E : Nat, cf.ev = (E : Int) := ⟨cf.ev.toNat, by omega⟩
  have K := lh (Below.refl w.heap.size w)
  have HT := lh h
  have TB := lh h.T
  have FB := lh h.F
  have HT0 := HT
  have TB0 := TB
  have FB0 := FB
  have htw := h.lt
  obtain ⟨T0', -, T2'⟩ := tbC_get fn B cf.ev
  have T0 := lh T0'
  have hft : fn < tn := by have := h.hF; have := h.hT; omega
  rw [hEV, Int.toNat_natCast]
  rw [hEV] at hev
  generalize tbC fn B cf.ev = tc at *
  rw [hEV] at T2'
  have T2 := lh T2'
  generalize famC cf = fc at *
  have IK := lh (fl_ik k hk)
  have HKF := lh hk
  clear T0' T2' h hl4 hk hc hok hEV
  have hS4 : (addS (-1) [] (plL cf k)).length ≤ 4 := Nat.le_trans (addS_len _ _ _) (by have := PLE.out k; simpa using this)
  have hSM := lh (addS_sm (-1) (plL cf k) [] (fun _ h => by cases h) (PSM.out k))
  have hFR := lh (addS_fr (-1) (plL cf k) [] (fun i h => by simp at h) (by omega) (by simp))
  have hIB := lh (addS_inB cf (-1) (plL cf k) [] (fun _ h => by cases h) (PIN.out k))
  obtain ⟨SA, hSA⟩ : ∃ x, x = addS (-1) [] (plL cf k) := ⟨_, rfl⟩
  rw [← hSA] at hS4 hSM hFR hIB ⊢
  have HSA := lh hSA
  obtain ⟨res, hres⟩ : ∃ r, r = srN cf c EV SA 0 := ⟨_, rfl⟩
  rw [← hres]
  have HRS := lh hres
  clear hSA hres
  have hz1 := zero117
  have hmm := @run_makeMap Try.prog
  go_enter Try.func27, Try.ntmps27
  have hal := (Below.refl w.heap.size w).alloc (Nat.le_refl _) (.cells k.cs 42)
  replace K := lh (K.out.trans (hal.mono K.out.size))
  replace HT := lh (HT.out.below hal)
  replace TB := lh (TB.out.below hal TB.out.lt)
  replace FB := lh (FB.out.below hal FB.out.lt)
  have BK := lh (Blk.new w 42 k.cs)
  clear hal
  go_upto_region 2 with fail
  have hal := ((Below.refl (w.heap.size + 1) (w.alloc (.cells k.cs 42))).alloc (by simp) (.map #[] 0)).alloc (by simp) (.cells #[.slice none 0 0, .map (some (w.heap.size + 1))] 117)
  have hss : SS (w.heap.size + 1 + 1) (w.heap.size + 1) (w.heap.size + 1 + 1 + 1) [] (((w.alloc (.cells k.cs 42)).alloc (.map #[] 0)).alloc (.cells #[.slice none 0 0, .map (some (w.heap.size + 1))] 117)) := by
    refine SS.start ?_ ?_
    · have := Blk.new ((w.alloc (.cells k.cs 42)).alloc (.map #[] 0)) 117 #[.slice none 0 0, .map (some (w.heap.size + 1))]
      rwa [World.size_alloc, World.size_alloc] at this
    · have := World.alloc_heap_new (w.alloc (.cells k.cs 42)) (.map #[] 0)
      rw [World.size_alloc] at this
      exact (Below.heap_alloc _ _ _ (by simp)).trans this
  have hsz3 : (((w.alloc (.cells k.cs 42)).alloc (.map #[] 0)).alloc (.cells #[.slice none 0 0, .map (some (w.heap.size + 1))] 117)).heap.size = w.heap.size + 3 := by simp
  replace K := lh (K.out.trans (hal.mono (by omega)))
  replace HT := lh (HT.out.belowB hal (by omega))
  replace TB := lh (TB.out.below hal (by omega))
  replace FB := lh (FB.out.below hal (by omega))
  replace BK := lh (BK.out.below hal (by omega))
  generalize ((w.alloc (.cells k.cs 42)).alloc (.map #[] 0)).alloc (.cells #[.slice none 0 0, .map (some (w.heap.size + 1))] 117) = Wb at *
  have HS := lh hss
  have KZ := lh (Below.refl w.heap.size Wb)
  clear hss hal hz1 hmm
  refine wp_region_held_last (n := 6) (S := (fun w' : World => Blk w' (tn) 80 tc ∧ Blk w' (fn) 110 fc ∧ Blk w' (w.heap.size) 42 k.cs)) (by kernel_rfl) (by kernel_rfl) ?_
  simp only [List.pop_toArray, List.dropLast_cons_cons, List.dropLast_singleton]
  change wpAnyH _ _ _ _ _ _ _ _ Wb.drew
  have hy : Below Wb.heap.size Wb Wb.drew := (Below.refl _ _).drew
  replace HS := lh (SS.low HS.out hy (Nat.le_refl _))
  replace KZ := lh (KZ.out.trans (hy.mono (Nat.le_trans (by omega) KZ.out.size)))
  replace K := lh (K.out.trans (hy.mono K.out.size))
  replace HT := lh (HT.out.below hy)
  replace TB := lh (TB.out.below hy TB.out.lt)
  replace FB := lh (FB.out.below hy FB.out.lt)
  replace BK := lh (BK.out.below hy BK.out.lt)
  clear hy
  generalize Wb.drew = Y2h0 at *
  refine tkA 0 (?_) ?_ ⟨TB.out, FB.out, BK.out⟩ ?_
  rotate_left
  · (intro w1 hS; go_simp; try with_reducible rfl)
  simp only [Act.put, tS1, tS2, tS3]
  refine tkA 1 (?_) ?_ ⟨TB.out, FB.out, BK.out⟩ ?_
  rotate_left
  · (intro w1 hS; go_simp; try with_reducible rfl)
  simp only [Act.put, tS1, tS2, tS3]
  refine tkA 2 (?_) ?_ ⟨TB.out, FB.out, BK.out⟩ ?_
  rotate_left
  · (intro w1 hS; go_simp; try with_reducible rfl)
  simp only [Act.put, tS1, tS2, tS3]
  refine tkA 3 (?_) ?_ ⟨TB.out, FB.out, BK.out⟩ ?_
  rotate_left
  · (intro w1 hS; obtain ⟨hS0, hS1, hS2⟩ := hS; have q := (hS0.cell 0).trans T0.out; go_simp; try with_reducible rfl)
  simp only [Act.put, tS1, tS2, tS3]
  refine tkA 4 (.agg k.cs) ?_ ⟨TB.out, FB.out, BK.out⟩ ?_
  · (intro w1 hS; obtain ⟨hS0, hS1, hS2⟩ := hS; exact exec_load 42 (.tmp 3) rfl _ rfl _ (run_blk_load (P := Try.prog) 42 (w.heap.size) _ hS2 Try.underlying42 rfl IK.out))
  simp only [Act.put, tS1, tS2, tS3]
  obtain ⟨gI, hgI⟩ : ∃ g, g = Y2h0.heap.size := ⟨_, rfl⟩
  refine tkO 5 (fun KK hK => ?_)
  go_simp
  refine (CPL.out k Y2h0).mono ?_
  rintro e Y2h1 ⟨rfl, h1, h2, hy⟩
  replace HS := lh (SS.low HS.out hy (Nat.le_refl _))
  replace KZ := lh (KZ.out.trans (hy.mono (Nat.le_trans (by omega) KZ.out.size)))
  replace K := lh (K.out.trans (hy.mono K.out.size))
  replace HT := lh (HT.out.below hy)
  replace TB := lh (TB.out.below hy TB.out.lt)
  replace FB := lh (FB.out.below hy FB.out.lt)
  replace BK := lh (BK.out.below hy BK.out.lt)
  clear hy
  rw [← hgI] at h1 h2 ⊢
  have PF := lh h1
  have PK := lh h2
  have hbz := h2.lt
  clear h1 h2 hgI
  refine hK.out _ _ ⟨TB.out, FB.out, BK.out⟩ (fun _ => ?_)
  clear hK KK
  try simp only [Act.put, tS1, tS2, tS3]
  have hsz4 := K.out.size
  refine wpAnyH_done (by kernel_rfl) ?_ _
  refine op_last ?_
  go_simp
  refine (CAD.out (w.heap.size + 1 + 1) (w.heap.size + 1) (w.heap.size + 1 + 1 + 1) [] (-1) gI k HKF.out Y2h1 FB.out PF.out PK.out HS.out (fun _ h => by cases h) (by simp) (by omega) (by omega) (by have := KZ.out.size; omega)).mono ?_
  rintro e Y2h2 ⟨rfl, hss, hy⟩
  replace K := lh (K.out.trans (hy.mono (by omega)))
  replace HT := lh (HT.out.belowB hy (by omega))
  replace TB := lh (TB.out.below hy (by omega))
  replace FB := lh (FB.out.below hy (by omega))
  replace KZ := lh (KZ.out.trans (hy.mono (by omega)))
  replace HS := lh hss
  clear hss hy PF PK BK
  rw [← HSA.out] at HS
  go_wp2_with fail
  go_loopw [6] (fun i wr => ∃ (n : Nat) (S : List Stp), i = .int .i64 (n : Int) ∧ n ≤ EV ∧ S.length ≤ 4 * n + 4 ∧ Hid (SS (w.heap.size + 1 + 1) (w.heap.size + 1) (w.heap.size + 1 + 1 + 1) S wr) ∧ Hid (smS S) ∧ Hid (frS S) ∧ Hid (inB cf S) ∧ Hid (srN cf c (EV - n) S n = res) ∧ Hid (Below w.heap.size w wr) ∧ w.heap.size + 3 ≤ wr.heap.size) (fun i _ => EV - (RowKit.intOf i).toNat)
  case atStart => exact ⟨0, SA, rfl, by omega, by omega, HS, hSM, hFR, hIB, HRS.out.symm, K, by have := KZ.out.size; omega⟩
  case round =>
    obtain ⟨n, S, rfl, hnE, hSl, HSr, HSM, HFR, HIB, HRES, Kr, hwz⟩ := hrel
    clear hSM hFR hIB
    have HTr := lh (HT0.out.belowB Kr.out (by omega))
    have TBr := lh (TB0.out.below Kr.out (by omega))
    have FBr := lh (FB0.out.below Kr.out (by omega))
    clear HS K HT TB FB KZ
    have hss := HSr.out
    obtain ⟨vs, es, clk, hP, hO, hM, hk⟩ := hss
    have P := lh hP
    have c0 := P.out.cell 0
    have t2 := (TBr.out.cell 2).trans T2.out
    obtain ⟨av, kv, hvs⟩ := row_shape hO
    have ES := lh (fun h => srN_end cf c (EV - n) n S h)
    have EF := lh (fun h h2 => srN_free cf c (EV - n) n S h h2)
    have EO := lh (fun s h h2 => srN_on cf c (EV - n) n S s h h2)
    by_cases h1 : n < S.length
    case neg =>
      subst hvs
      have d1 : decide ((n : Int) < (S.length : Int)) = false := decide_eq_false (by omega)
      have d2 : decide (n < S.length) = false := decide_eq_false h1
      have HR := lh (HRES.out.symm.trans (ES.out (by omega)))
      clear ES EF EO hP hO hM hk
      go_wp2
      go_ret
      exact ⟨Kr.out, .inl ⟨HR.out, rfl⟩⟩
    have d1 : decide ((n : Int) < (S.length : Int)) = true := decide_eq_true (by omega)
    have d2 : decide (n < S.length) = true := decide_eq_true h1
    by_cases h2 : n < EV
    case neg =>
      subst hvs
      have d3 : decide ((n : Int) < (EV : Int)) = false := decide_eq_false (by omega)
      have d4 : decide (n < EV) = false := decide_eq_false h2
      have HR : Hid (res = none) := by show _ = _; rw [← HRES.out, show EV - n = 0 by omega]; rfl
      clear ES EF EO hP hO hM hk
      go_wp2
      go_ret
      exact ⟨Kr.out, .inl ⟨HR.out, rfl⟩⟩
    have d3 : decide ((n : Int) < (EV : Int)) = true := decide_eq_true (by omega)
    have d4 : decide (n < EV) = true := decide_eq_true h2
    clear hvs
    obtain ⟨gs, cap, cur, rfl, hB, hcc⟩ := row120 hO (by omega)
    obtain ⟨q0, q1, -⟩ := hcc n h1
    have HIN := lh (in_lk (inB_get HIB.out h1))
    replace EF := lh (EF.out h1 (by omega))
    replace EO := lh (fun s => EO.out s h1 (by omega))
    have L1 := lh (load_st hB _ q0 q1)
    generalize (S.getD n ((0, 0), 0)).1 = x at *
    unfold pcP at L1
    have hb2 : 0 ≤ (n : Int) ∧ (n : Int) < (S.length : Int) := by omega
    clear hP hO hM hk hcc hB q0 q1 ES P
    have hI51 := i51c
    have I51 : Hid ((Try.prog.info? 51).map (·.size) = some (#[Value.int .i64 (x.1 : Int), .int .i64 (x.2 : Int)] : Array Value).size) := i51c
    go_upto_region 7 with ((with_reducible refine wpList_load_want (op := ⟨some 39, .load 51 (.tmp 38), _, _, _, _⟩) ?wg1 51 (.tmp 38) ?wo1 ⟨gs, n * 3, none⟩ ?wx1 (.agg #[.int .i64 (x.1 : Int), .int .i64 (x.2 : Int)]) L1.out ?_); (case wg1 => rfl); (case wo1 => rfl); (case wx1 => rfl))
    clear L1 c0 t2
    have hal := (Below.refl wr.heap.size wr).alloc (Nat.le_refl _) (.cells #[.int .i64 (x.1 : Int), .int .i64 (x.2 : Int)] 51)
    have hX := Blk.new wr 51 #[.int .i64 (x.1 : Int), .int .i64 (x.2 : Int)]
    obtain ⟨gx, hgx⟩ : ∃ g, g = wr.heap.size := ⟨_, rfl⟩
    have hgz : w.heap.size + 3 ≤ gx := by omega
    have KZ := lh (Below.refl w.heap.size wr)
    replace HSr := lh (SS.low HSr.out hal (Nat.le_refl _))
    replace KZ := lh (KZ.out.trans (hal.mono (Nat.le_trans (by omega) KZ.out.size)))
    replace Kr := lh (Kr.out.trans (hal.mono Kr.out.size))
    replace HTr := lh (HTr.out.below hal)
    replace TBr := lh (TBr.out.below hal TBr.out.lt)
    replace FBr := lh (FBr.out.below hal FBr.out.lt)
    rw [← hgx] at hX ⊢
    have X := lh hX
    clear hal hX hgx
    generalize wr.alloc (.cells #[.int .i64 (x.1 : Int), .int .i64 (x.2 : Int)] 51) = Wa at *
    have CFX := lh (CFR.out x)
    rw [HIN.out] at CFX
    have COX := lh (COW.out x)
    generalize lkN cf.st.toNat cf.sz.toNat c x = o at *
    have L1 : (loadVar 51 ⟨gx, 0, none⟩).run Try.prog Wa = .ok (.agg #[.int .i64 (x.1 : Int), .int .i64 (x.2 : Int)]) Wa := run_blk_load (P := Try.prog) 51 (gx) _ X.out Try.underlying51 rfl I51.out
    replace L1 := lh L1
    go_wp2_with (((with_reducible refine wpList_load_want (op := ⟨some 41, .load 51 (.tmp 7), _, _, _, _⟩) ?wg1 51 (.tmp 7) ?wo1 ⟨gx, 0, none⟩ ?wx1 (.agg #[.int .i64 (x.1 : Int), .int .i64 (x.2 : Int)]) L1.out ?_); (case wg1 => rfl); (case wo1 => rfl); (case wx1 => rfl)))
    clear L1
    refine (CFX.out Wa HTr.out).mono ?_
    rintro e V201 ⟨rfl, hy⟩
    replace HSr := lh (SS.low HSr.out hy (Nat.le_refl _))
    replace KZ := lh (KZ.out.trans (hy.mono (Nat.le_trans (by omega) KZ.out.size)))
    replace Kr := lh (Kr.out.trans (hy.mono Kr.out.size))
    replace HTr := lh (HTr.out.below hy)
    replace TBr := lh (TBr.out.below hy TBr.out.lt)
    replace FBr := lh (FBr.out.below hy FBr.out.lt)
    replace X := lh (X.out.below hy X.out.lt)
    clear hy
    cases o with
    | none =>
      have HR := lh (HRES.out.symm.trans (EF.out rfl))
      have CB := lh (CBK.out (w.heap.size + 1 + 1) (w.heap.size + 1) (w.heap.size + 1 + 1 + 1) S n h1 HFR.out (by omega))
      have HL0 : Hid (0 < (bkL S n).length ∧ (bkL S n).length ≤ 64) := ⟨by unfold bkL; rw [bkG_step S _ n h1]; simp, Nat.le_trans (bkL_len S n HFR.out h1) (by omega)⟩
      have HSz := KZ.out.size
      clear EF EO CAD CFX COX CFR COW CPL PIN PSM PLE
      go_wp2_with fail
      refine (CB.out V201 HSr.out).mono ?_
      rintro e V202 ⟨g, cap2, hg, rfl, hr, hy⟩
      replace HSr := lh (SS.low HSr.out hy (Nat.le_refl _))
      replace KZ := lh (KZ.out.trans (hy.mono (Nat.le_trans (by omega) KZ.out.size)))
      replace Kr := lh (Kr.out.trans (hy.mono Kr.out.size))
      replace HTr := lh (HTr.out.below hy)
      replace TBr := lh (TBr.out.below hy TBr.out.lt)
      replace FBr := lh (FBr.out.below hy FBr.out.lt)
      replace X := lh (X.out.below hy X.out.lt)
      have HG := lh hr
      clear hr
      clear hy
      go_wp2
      go_ret
      exact ⟨Kr.out, .inr ⟨(bkL S n).reverse, g, cap2, HR.out, by rw [List.length_reverse]; exact HL0.out.1, by rw [List.length_reverse]; exact HL0.out.2, by have := Kr.out.size; omega, by rw [List.length_reverse]; rfl, by rw [List.length_reverse]; exact HG.out.conv (fun i hi => rev_getD _ _ hi)⟩⟩
    | some s =>
      have EOs := lh (EO.out s rfl)
      change Hid (∀ W, _ → Calls _ _ _ _ (fun e w' => e = .returned (.tuple #[.agg s.k.cs, .bool true]) ∧ _)) at COX
      have CPS := lh (CPL.out s.k)
      have CAS := lh (fun p m b S fr gI => CAD.out p m b S fr gI s.k s.fit)
      clear EF EO CFX CFR COW CBK CPL CAD
      have IS := lh (IKK.out s.k s.fit)
      have hs1 : s.k.cs.size = 37 := s.k.cs_size s.fit
      have hs2 : k0.cs.size = 37 := k0.cs_size k0_fit
      have HSA2 := lh (Fl.cs_all s.k)
      have ISY : Hid (k0.cs.size = s.k.cs.size) := by show _ = _; rw [s.k.cs_size s.fit, k0.cs_size k0_fit]
      have hz42 := zero42
      generalize s.k.cs = sc at *
      have L2 : (loadVar 51 ⟨gx, 0, none⟩).run Try.prog V201 = .ok (.agg #[.int .i64 (x.1 : Int), .int .i64 (x.2 : Int)]) V201 := run_blk_load (P := Try.prog) 51 (gx) _ X.out Try.underlying51 rfl I51.out
      replace L2 := lh L2
      go_wp2_with (((with_reducible refine wpList_load_want (op := ⟨some 47, .load 51 (.tmp 7), _, _, _, _⟩) ?wg2 51 (.tmp 7) ?wo2 ⟨gx, 0, none⟩ ?wx2 (.agg #[.int .i64 (x.1 : Int), .int .i64 (x.2 : Int)]) L2.out ?_); (case wg2 => rfl); (case wo2 => rfl); (case wx2 => rfl)))
      clear L2
      refine (COX.out V201 HTr.out).mono ?_
      rintro e V202 ⟨rfl, hy⟩
      replace HSr := lh (SS.low HSr.out hy (Nat.le_refl _))
      replace KZ := lh (KZ.out.trans (hy.mono (Nat.le_trans (by omega) KZ.out.size)))
      replace Kr := lh (Kr.out.trans (hy.mono Kr.out.size))
      replace HTr := lh (HTr.out.below hy)
      replace TBr := lh (TBr.out.below hy TBr.out.lt)
      replace FBr := lh (FBr.out.below hy FBr.out.lt)
      replace X := lh (X.out.below hy X.out.lt)
      clear hy
      change Hid (Blk V202 gx _ _) at X
      have hst := run_storeCells_new (P := Try.prog) V202 42 k0.cs sc IS.out ISY.out HSA2.out
      go_upto_region 10 with fail
      clear hst hz42 ISY
      have hal := (Below.refl V202.heap.size V202).alloc (Nat.le_refl _) (.cells sc 42)
      have hX := Blk.new V202 42 sc
      obtain ⟨go, hgo⟩ : ∃ g, g = V202.heap.size := ⟨_, rfl⟩
      have hgo2 : w.heap.size + 3 ≤ go := by have := KZ.out.size; omega
      replace HSr := lh (SS.low HSr.out hal (Nat.le_refl _))
      replace KZ := lh (KZ.out.trans (hal.mono (Nat.le_trans (by omega) KZ.out.size)))
      replace Kr := lh (Kr.out.trans (hal.mono Kr.out.size))
      replace HTr := lh (HTr.out.below hal)
      replace TBr := lh (TBr.out.below hal TBr.out.lt)
      replace FBr := lh (FBr.out.below hal FBr.out.lt)
      replace X := lh (X.out.below hal X.out.lt)
      rw [← hgo] at hX ⊢
      have OB := lh hX
      clear hal hX hgo X
      generalize V202.alloc (.cells sc 42) = Wo at *
      go_wp2_with fail
      refine wp_region_held_last (n := 7) (S := (fun w' : World => Blk w' (tn) 80 tc ∧ Blk w' (fn) 110 fc ∧ Blk w' (go) 42 sc)) (by kernel_rfl) (by kernel_rfl) ?_
      simp only [List.pop_toArray, List.dropLast_cons_cons, List.dropLast_singleton]
      change wpAnyH _ _ _ _ _ _ _ _ Wo.drew
      have hy : Below Wo.heap.size Wo Wo.drew := (Below.refl _ _).drew
      replace HSr := lh (SS.low HSr.out hy (Nat.le_refl _))
      replace KZ := lh (KZ.out.trans (hy.mono (Nat.le_trans (by omega) KZ.out.size)))
      replace Kr := lh (Kr.out.trans (hy.mono Kr.out.size))
      replace HTr := lh (HTr.out.below hy)
      replace TBr := lh (TBr.out.below hy TBr.out.lt)
      replace FBr := lh (FBr.out.below hy FBr.out.lt)
      replace OB := lh (OB.out.below hy OB.out.lt)
      clear hy
      generalize Wo.drew = Y10h0 at *
      refine tkA 0 (?_) ?_ ⟨TBr.out, FBr.out, OB.out⟩ ?_
      rotate_left
      · (intro w1 hS; go_simp; try with_reducible rfl)
      simp only [Act.put, tS1, tS2, tS3]
      refine tkA 1 (?_) ?_ ⟨TBr.out, FBr.out, OB.out⟩ ?_
      rotate_left
      · (intro w1 hS; go_simp; try with_reducible rfl)
      simp only [Act.put, tS1, tS2, tS3]
      refine tkA 2 (?_) ?_ ⟨TBr.out, FBr.out, OB.out⟩ ?_
      rotate_left
      · (intro w1 hS; go_simp; try with_reducible rfl)
      simp only [Act.put, tS1, tS2, tS3]
      refine tkA 3 (?_) ?_ ⟨TBr.out, FBr.out, OB.out⟩ ?_
      rotate_left
      · (intro w1 hS; obtain ⟨hS0, hS1, hS2⟩ := hS; have q := (hS0.cell 0).trans T0.out; go_simp; try with_reducible rfl)
      simp only [Act.put, tS1, tS2, tS3]
      refine tkA 4 (.agg sc) ?_ ⟨TBr.out, FBr.out, OB.out⟩ ?_
      · (intro w1 hS; obtain ⟨hS0, hS1, hS2⟩ := hS; exact exec_load 42 (.tmp 8) rfl _ rfl _ (run_blk_load (P := Try.prog) 42 (go) _ hS2 Try.underlying42 rfl IS.out))
      simp only [Act.put, tS1, tS2, tS3]
      refine tkA 6 (?_) ?_ ⟨TBr.out, FBr.out, OB.out⟩ ?_
      rotate_left
      · (intro w1 hS; go_simp; try with_reducible rfl)
      simp only [Act.put, tS1, tS2, tS3]
      obtain ⟨gI2, hgI⟩ : ∃ g, g = Y10h0.heap.size := ⟨_, rfl⟩
      refine tkO 5 (fun KK hK => ?_)
      go_simp
      refine (CPS.out Y10h0).mono ?_
      rintro e Y10h1 ⟨rfl, h1, h2, hy⟩
      replace HSr := lh (SS.low HSr.out hy (Nat.le_refl _))
      replace KZ := lh (KZ.out.trans (hy.mono (Nat.le_trans (by omega) KZ.out.size)))
      replace Kr := lh (Kr.out.trans (hy.mono Kr.out.size))
      replace HTr := lh (HTr.out.below hy)
      replace TBr := lh (TBr.out.below hy TBr.out.lt)
      replace FBr := lh (FBr.out.below hy FBr.out.lt)
      replace OB := lh (OB.out.below hy OB.out.lt)
      clear hy
      rw [← hgI] at h1 h2 ⊢
      have PF := lh h1
      have PK := lh h2
      clear h1 h2 hgI
      refine hK.out _ _ ⟨TBr.out, FBr.out, OB.out⟩ (fun _ => ?_)
      clear hK KK
      try simp only [Act.put, tS1, tS2, tS3]
      have hsz5 := KZ.out.size
      refine wpAnyH_done (by kernel_rfl) ?_ _
      refine op_last ?_
      go_simp
      refine (CAS.out (w.heap.size + 1 + 1) (w.heap.size + 1) (w.heap.size + 1 + 1 + 1) S (n : Int) gI2 Y10h1 FBr.out PF.out PK.out HSr.out HSM.out (by omega) (by omega) (by omega) (by omega)).mono ?_
      rintro e Y10h2 ⟨rfl, hss, hy⟩
      replace Kr := lh (Kr.out.trans (hy.mono (by omega)))
      replace HTr := lh (HTr.out.belowB hy (by omega))
      replace TBr := lh (TBr.out.below hy (by omega))
      replace FBr := lh (FBr.out.below hy (by omega))
      replace KZ := lh (KZ.out.trans (hy.mono (by omega)))
      replace HSr := lh hss
      clear hss hy PF PK OB
      have w6 : IntKind.i64.wrap ((n : Int) + 1) = ((n + 1 : Nat) : Int) := by rw [IntKind.wrap_i64]; omega
      have hlen := addS_len (n : Int) (plL cf s.k) S
      have hlong := addS_long (n : Int) (plL cf s.k) S
      have hple := PLE.out s.k
      have hKz := KZ.out.size
      go_wp2
      go_roundw
      case rel => exact ⟨n + 1, addS (n : Int) S (plL cf s.k), by go_num, by omega, by omega, HSr, addS_sm _ _ _ HSM.out (PSM.out s.k), addS_fr _ _ _ HFR.out (by omega) (by omega), addS_inB cf _ _ _ HIB.out (PIN.out s.k), by have h := HRES.out; rw [EOs.out] at h; rw [← Nat.sub_sub]; exact h, Kr, by omega⟩
      case measure => simp [RowKit.intOf]; omega
end Go.Proofs.Ythldpnifodbheaa
