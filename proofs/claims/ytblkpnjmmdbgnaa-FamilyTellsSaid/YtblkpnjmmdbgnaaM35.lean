/- Texts that the walks of this seat lean on, put together. -/
import Derived.RangeFuncRecord
import Derived.DeepKeys
import Derived.Handy
import Derived.LoopTactic
import Derived.StillTailTactics
import Derived.Deep.CutBlock
import Derived.Deep.DeepCutAuto
import Derived.Test.YtblkpnjmmdbgnaaTk
import Derived.Test.YtblkpnjmmdbgnaaM26
import Derived.Test.YtblkpnjmmdbgnaaM31
import Derived.Test.YtblkpnjmmdbgnaaM33
import Derived.Test.YtblkpnjmmdbgnaaM34
namespace Go.Proofs.Ytblkpnjmmdbgnaa
open Go.RowKit Go.Shelf
attribute [local go_sem] Oper.semAt_some
def plL (c : Cf) (k : Fl) : List (Nat × Nat) := if vK k then (List.range c.st.toNat).map fun s => (s, plN c k s) else []
theorem plL_no {c : Cf} {k : Fl} (h : vK k = false) : plL c k = [] := by unfold plL; rw [h]; rfl
theorem plL_yes {c : Cf} {k : Fl} (h : vK k = true) : plL c k = (List.range c.st.toNat).map fun s => (s, plN c k s) := by unfold plL; rw [h, if_pos rfl]
theorem plL_len (c : Cf) (k : Fl) (h : vK k = true) : (plL c k).length = c.st.toNat := by rw [plL_yes h, List.length_map, List.length_range]
theorem plL_get (c : Cf) (k : Fl) (h : vK k = true) (s : Nat) (hs : s < c.st.toNat) : (plL c k).getD s (0, 0) = (s, plN c k s) := by
  rw [plL_yes h, List.getD_eq_getElem?_getD, List.getElem?_map, List.getElem?_range hs, Option.map_some, Option.getD_some]
theorem plL_le (c : Cf) (k : Fl) (hok : okC c = true) : (plL c k).length ≤ 4 := by
  cases h : vK k with
  | false => rw [plL_no h]; exact Nat.zero_le _
  | true => rw [plL_len c k h]; have := okC_st hok; omega
theorem place_any (c : Cf) (hc : c.Fit) (hok : okC c = true) (k : Fl) (hk : k.Fit) (g s : Nat) (w : World) (hF : Blk w g 73 (famC c)) :
    Calls Try.prog 12 #[.pointer (some ⟨g, 0, none⟩), .agg k.cs, .int .i64 (s : Int)] w fun e w' => e = .returned (.tuple #[.agg #[.int .i64 (((plL c k).getD s (0, 0)).1 : Int), .int .i64 (((plL c k).getD s (0, 0)).2 : Int)], .bool (decide (s < (plL c k).length))]) ∧ Below w.heap.size w w' := by
  obtain ⟨b1, b2⟩ := okC_st hok
  cases hv : vK k with
  | false =>
    rw [plL_no hv]
    exact place_no c k hk hv s g w hF
  | true =>
    by_cases h : (s : Int) < c.st
    · have hs : s < c.st.toNat := by omega
      rw [plL_get c k hv s hs, plL_len c k hv, decide_eq_true hs]
      exact place_yes c hc hok k hk hv s ⟨by omega, h⟩ g w hF
    · have hs : ¬ s < c.st.toNat := by omega
      rw [plL_len c k hv, decide_eq_false hs, List.getD_eq_getElem?_getD, List.getElem?_eq_none (by rw [plL_len c k hv]; omega)]
      exact place_high c k hk hv s ⟨by omega, by omega⟩ g w hF
set_option maxRecDepth 100000 in
set_option maxHeartbeats 1000000 in
theorem places_any (p : Option Addr) (kc : Array Value) (w : World) :
    Calls Try.prog 38 #[.pointer p, .agg kc] w fun e w' => e = .returned (.func (.func 48) #[] #[.pointer (some ⟨w.heap.size, 0, none⟩), .pointer (some ⟨w.heap.size + 1, 0, none⟩)]) ∧ Boxed w' w.heap.size 37 (.pointer p) ∧ Blk w' (w.heap.size + 1) 31 kc ∧ Below w.heap.size w w' := by
  have b1 := (Boxed.new w 37 (.pointer p)).alloc (.cells kc 31)
  have b2 : Blk ((w.alloc (.cells #[.pointer p] 37)).alloc (.cells kc 31)) (w.heap.size + 1) 31 kc := by rw [← World.size_alloc w (.cells #[.pointer p] 37)]; exact Blk.new _ _ _
  have K := Lib.hid (((Below.refl w.heap.size w).alloc (Nat.le_refl _) (.cells #[.pointer p] 37)).alloc (by simp) (.cells kc 31))
  have B1 := Lib.hid b1
  have B2 := Lib.hid b2
  clear b1 b2
  go_enter Try.func38, Try.ntmps38
  go_wp2
  go_ret
  exact ⟨rfl, B1.out, B2.out, K.out⟩
def Kept (S : Nat → Prop) (A B : World) : Prop := A.heap.size ≤ B.heap.size ∧ ∀ k, S k → B.heap[k]? = A.heap[k]?
theorem Kept.refl (S : Nat → Prop) (A : World) : Kept S A A := ⟨Nat.le_refl _, fun _ _ => rfl⟩
theorem Kept.trans {S : Nat → Prop} {A B C : World} (h : Kept S A B) (k : Kept S B C) : Kept S A C := ⟨Nat.le_trans h.1 k.1, fun i hi => (k.2 i hi).trans (h.2 i hi)⟩
theorem Kept.below {S : Nat → Prop} {A B : World} {n : Nat} (h : Below n A B) (hS : ∀ k, S k → k < n) : Kept S A B := ⟨h.size, fun k hk => h.block k (hS k hk)⟩
theorem kept_b {S : Nat → Prop} {w : World} (hS : ∀ k, S k → k < w.heap.size) (W : World) (l : Nat) (o o' : Obj) (hl : w.heap.size ≤ l) (h : W.heap[l]? = some o) (hc : o.isCells = false) (hw : o.isWalk = false) : Kept S W (W.putObj l o') :=
  Kept.below (belowK_b (Nat.le_refl _) W l o o' hl h hc hw) hS
theorem wpListIn_load_want {F : Fence} {n : Nat} {P : Program} {ops : Array Oper} {rest : List Oper} {op : Oper} {a : Act} {w : World} {Q : Exit → Act → World → Prop} (hw : Region.wanted op (yielded ops a.tmps) = true) (ty : TypeId) (x : Operand) (ho : op.op = .load ty x)
    (p : Addr) (hx : a.eval x = .pointer (some p)) (v : Value) (hl : (loadVar ty p).run P w = .ok v w) (h : wpListIn F n P ops Q rest (a.put op.dst v) w) : wpListIn F n P ops Q (op :: rest) a w :=
  BigFrame.wpListIn_want hw fun K hK => by
    refine ⟨fun f hf => ?_, ?_⟩
    · simp [Oper.about, ho] at hf
    · rw [Oper.semAt_eq _ _ _ (by simp [ho]), exec_load ty x ho p hx v hl]
      exact hK _ _ h
theorem grown_of_below {A B : World} (h : Below A.heap.size A B) : A.grownBy B none := ⟨h.os, h.tape, h.output, h.size, fun k hk _ => h.block k hk⟩
theorem take_snocP (L : List (Nat × Nat)) (k : Nat) (h : k < L.length) : L.take k ++ [L.getD k (0, 0)] = L.take (k + 1) := by
  rw [List.take_add_one, List.getD_eq_getElem?_getD, List.getElem?_eq_getElem h]; rfl
def pcP (x : Nat × Nat) : Array Value := #[.int .i64 (x.1 : Int), .int .i64 (x.2 : Int)]
set_option maxRecDepth 100000 in
set_option maxHeartbeats 4000000 in
theorem itp_in (n : Nat) (hn : 1 ≤ n) (l Bf Bk g len : Nat) (L : List (Nat × Nat)) (hL : len = L.length) (kc fc : Array Value) (hi31 : (Try.prog.info? 31).map (·.size) = some kc.size) (hl4 : len ≤ 4) (J Jx : List (Nat × Nat) → World → Prop)
    (W : World) (hJ : AbidesFrom W.heap.size J)
    (CP : ∀ (s : Nat) (w : World), Blk w g 73 fc → Calls Try.prog 12 #[.pointer (some ⟨g, 0, none⟩), .agg kc, .int .i64 (s : Int)] w fun e w' => e = .returned (.tuple #[.agg #[.int .i64 ((L.getD s (0, 0)).1 : Int), .int .i64 ((L.getD s (0, 0)).2 : Int)], .bool (decide (s < len))]) ∧ Below w.heap.size w w')
    (hY : ∀ pre x W, J pre W → pre.length < len → YieldAt Fence.wide (n - 1) Try.prog l #[.agg (pcP x)] W fun e W' =>
      (e = .returned (.bool true) ∧ J (pre ++ [x]) W' ∧ Kept (fun k => k = g ∨ k = Bf ∨ k = Bk) W W') ∨ (e = .returned (.bool false) ∧ Jx (pre ++ [x]) W'))
    (hBf : Boxed W Bf 37 (.pointer (some ⟨g, 0, none⟩))) (hBk : Blk W Bk 31 kc) (hF : Blk W g 73 fc) (h0 : J [] W) :
    CallsIn Fence.wide n Try.prog 48 #[.func (.yield l) #[] #[], .pointer (some ⟨Bf, 0, none⟩), .pointer (some ⟨Bk, 0, none⟩)] W fun e W' => (∃ v, e = .returned v) ∧
      ((∃ ys, ys = L ∧ J ys W') ∨ (∃ pre, (∃ k, k ≤ len ∧ pre = L.take k) ∧ Jx pre W')) := by
  have HL := Lib.hid hL
  have HY := Lib.hid hY
  have HJ := Lib.hid hJ
  have HBF := Lib.hid hBf
  have HBK := Lib.hid hBk
  have HF := Lib.hid hF
  have HP := Lib.hid CP
  have HI := Lib.hid hi31
  clear hL hY hJ hBf hBk hF CP hi31
  refine callsIn_of_wp Try.func48 rfl trivial ?_ rfl
  simp only [Try.ntmps48, List.size_toArray, List.length_cons, List.length_nil, Nat.reduceAdd, Nat.reduceSub, Array.replicate_succ, Array.replicate_zero, List.push_toArray, List.append_toArray, List.nil_append, List.cons_append]
  gi_wp2
  gi_loopw [4] (fun i wr => ∃ k : Nat, k ≤ len ∧ i = .int .i64 (k : Int) ∧ J (L.take k) wr ∧ Kept (fun k => k = g ∨ k = Bf ∨ k = Bk) W wr)
    (fun i _ => len - (intOf i).toNat)
  case atStart => exact ⟨0, Nat.zero_le _, rfl, h0, Kept.refl _ _⟩
  case round =>
    obtain ⟨k, hk, rfl, hJs, hkp⟩ := hrel
    clear h0
    have bf : Boxed wr Bf 37 (.pointer (some ⟨g, 0, none⟩)) := (hkp.2 Bf (.inr (.inl rfl))).trans HBF.out
    have bk : Blk wr Bk 31 kc := (hkp.2 Bk (.inr (.inr rfl))).trans HBK.out
    have ff : Blk wr g 73 fc := (hkp.2 g (.inl rfl)).trans HF.out
    have hcf := bf.cell
    have L1 := Lib.hid (run_blk_load (P := Try.prog) 31 Bk _ bk Try.underlying31 rfl HI.out)
    have CPk := Lib.hid (HP.out k wr ff)
    have HKP := Lib.hid hkp
    have HJs := Lib.hid hJs
    have HSz : Hid (∀ j, (j = g ∨ j = Bf ∨ j = Bk) → j < wr.heap.size) := by
      show ∀ j, (j = g ∨ j = Bf ∨ j = Bk) → j < wr.heap.size
      intro j hj
      rcases hj with rfl | rfl | rfl
      · exact ff.lt
      · exact bf.lt
      · exact bk.lt
    clear hkp hJs bf bk ff
    gi_wp2_with ((with_reducible refine wpListIn_load_want (op := ⟨some 11, .load 31 (.tmp 2), _, _, _, _⟩) ?wg1 31 (.tmp 2) ?wo1 ⟨Bk, 0, none⟩ ?wx1 (.agg kc) L1.out ?_); (case wg1 => rfl); (case wo1 => rfl); (case wx1 => rfl))
    refine ⟨trivial, ?_⟩
    refine (callsIn_wide.2 CPk.out).mono ?_
    rintro e V ⟨rfl, hyB⟩
    by_cases hlt : k < len
    case neg =>
      obtain rfl : len = k := by omega
      rw [decide_eq_false hlt]
      generalize L.getD len (0, 0) = y at *
      have hJV := HJ.out _ _ _ none HJs.out (grown_of_below (hyB.alloc hyB.size (.cells #[.int .i64 (y.1 : Int), .int .i64 (y.2 : Int)] 41))) (fun r e => by cases e)
      have HJV := Lib.hid hJV
      clear hJV hlt CPk L1 hcf
      gi_wp2
      refine ⟨fun f hf => (by cases hf), ?_⟩
      gi_wp2
      refine bodyPost_ret (results_none rfl _ _ _) rfl ?_
      exact ⟨⟨_, rfl⟩, .inl ⟨_, rfl, by have := HJV.out; rw [HL.out, List.take_length] at this; exact this⟩⟩
    rw [decide_eq_true hlt]
    have HTK := Lib.hid (take_snocP L k (by rw [← HL.out]; exact hlt))
    generalize L.getD k (0, 0) = y at *
    have hal := hyB.alloc hyB.size (.cells #[.int .i64 (y.1 : Int), .int .i64 (y.2 : Int)] 41)
    obtain ⟨fn, tmps, assign, body, hy, hR⟩ := HY.out _ y _ (HJ.out _ _ _ none HJs.out (grown_of_below hal) (fun r e => by cases e)) (by rw [List.length_take, ← HL.out]; omega)
    have HK2 := Lib.hid (Kept.below hal HSz.out)
    unfold pcP at hy
    clear hal CPk L1 hcf
    gi_wp2
    refine hR.mono ?_
    rintro e W3 (⟨rfl, hJ3, hk3⟩ | ⟨rfl, hJx3⟩)
    · gi_wp2
      go_roundw
      case rel => exact ⟨k + 1, by omega, by go_num, by rw [HTK.out] at hJ3; exact hJ3, (HKP.out.trans HK2.out).trans hk3⟩
      case measure => simp [intOf]; omega
    · gi_wp2
      refine bodyPost_ret (results_none rfl _ _ _) rfl ?_
      exact ⟨⟨_, rfl⟩, .inr ⟨_, ⟨k + 1, by omega, HTK.out⟩, hJx3⟩⟩
theorem itp_stops (n : Nat) (hn : 1 ≤ n) (Bf Bk g : Nat) (L : List (Nat × Nat)) (kc fc : Array Value) (hi31 : (Try.prog.info? 31).map (·.size) = some kc.size) (hl4 : L.length ≤ 4) (w : World)
    (CP : ∀ (s : Nat) (w : World), Blk w g 73 fc → Calls Try.prog 12 #[.pointer (some ⟨g, 0, none⟩), .agg kc, .int .i64 (s : Int)] w fun e w' => e = .returned (.tuple #[.agg #[.int .i64 ((L.getD s (0, 0)).1 : Int), .int .i64 ((L.getD s (0, 0)).2 : Int)], .bool (decide (s < L.length))]) ∧ Below w.heap.size w w')
    (hBf : Boxed w Bf 37 (.pointer (some ⟨g, 0, none⟩))) (hBk : Blk w Bk 31 kc) (hF : Blk w g 73 fc) :
    SeqStopsK Fence.wide n Try.prog 48 #[.pointer (some ⟨Bf, 0, none⟩), .pointer (some ⟨Bk, 0, none⟩)] (fun x : Nat × Nat => #[.agg (pcP x)]) (Kept (fun k => k = g ∨ k = Bf ∨ k = Bk)) (fun ys => ys = L) (fun pre => ∃ k, k ≤ L.length ∧ pre = L.take k) L.length w := fun l J Jx W hW hJ _ hY h0 =>
  itp_in n hn l Bf Bk g L.length L rfl kc fc hi31 hl4 J Jx W hJ CP hY ((hW.block Bf hBf.lt).trans hBf) ((hW.block Bk hBk.lt).trans hBk) ((hW.block g hF.lt).trans hF) h0
end Go.Proofs.Ytblkpnjmmdbgnaa
namespace Go.Proofs.Ytblkpnjmmdbgnaa
open Go.RowKit Go.Shelf
attribute [local go_sem] Oper.semAt_some
def pcells (L : List (Nat × Nat)) : List Value := L.flatMap fun x => [.int .i64 (x.1 : Int), .int .i64 (x.2 : Int)]
theorem pcells_append (A B : List (Nat × Nat)) : pcells (A ++ B) = pcells A ++ pcells B := by unfold pcells; rw [List.flatMap_append]
theorem pcells_get (L : List (Nat × Nat)) (k : Nat) (h : k < L.length) : (pcells L)[k * 2]? = some (.int .i64 ((L.getD k (0, 0)).1 : Int)) ∧ (pcells L)[k * 2 + 1]? = some (.int .i64 ((L.getD k (0, 0)).2 : Int)) := by
  induction L generalizing k with
  | nil => simp at h
  | cons x L ih =>
    cases k with
    | zero => exact ⟨rfl, rfl⟩
    | succ k =>
      have := ih k (by simpa using h)
      rw [show (k + 1) * 2 = k * 2 + 1 + 1 by omega]
      exact this
theorem info41 : (Try.prog.info? 41).map (fun i => (i.zero, i.size, i.bytes)) = some (some (.agg #[.int .i64 0, .int .i64 0]), 2, 16) := by kernel_rfl
theorem row_shape {w : World} {base : Nat} {e : TypeId} {v : Value} {k n : Nat} {xs : List Value} (h : w.ownsRow base e k v n xs) : ∃ a c, v = .slice a n c := by
  rcases h.2 with ⟨rfl, rfl⟩ | ⟨g, cap, cur, rfl, -⟩
  · exact ⟨_, _, rfl⟩
  · exact ⟨_, _, rfl⟩
def cutP (L : List (Nat × Nat)) (most : Int) : List (Nat × Nat) := if 0 ≤ most ∧ most ≤ (L.length : Int) then L.take most.toNat else L
theorem cutP_done (L : List (Nat × Nat)) (most : Int) (h : 0 ≤ most → (L.length : Int) ≤ most) : cutP L most = L := by
  unfold cutP
  split
  · rename_i hc
    have := h hc.1
    exact List.take_of_length_le (by omega)
  · rfl
theorem cutP_stop (L pre : List (Nat × Nat)) (most : Int) (x : Nat × Nat) (k : Nat) (h : pre ++ [x] = L.take k) (hm : (pre.length : Int) = most) : cutP L most = pre := by
  have hl : pre.length + 1 = (L.take k).length := by rw [← h]; simp
  rw [List.length_take] at hl
  unfold cutP
  rw [if_pos (by omega), ← hm]
  have : (L.take k).take pre.length = pre := by rw [← h]; simp
  rw [List.take_take] at this
  rw [show min pre.length k = pre.length by omega] at this
  exact this
def GotP (b hi : Nat) (most : Int) (w0 : World) (l : List (Nat × Nat)) (W : World) : Prop :=
  (∃ v, Boxed W (b + 2) 53 v ∧ W.ownsRow hi 41 2 v l.length (pcells l) ∧ True) ∧
  Boxed W (b + 1) 3 (.int .i64 most) ∧ (0 ≤ most → (l.length : Int) ≤ most) ∧ hi ≤ W.heap.size ∧ Below b w0 W
theorem GotP.own (b hi B : Nat) (most : Int) (w0 : World) (h : b ≤ w0.heap.size) (hB : b ≤ B) : OwnFrom B (GotP b hi most w0) :=
  OwnFrom.and (Own.from (holdsRow_own hi (b + 2) 53 41 2 (fun l : List (Nat × Nat) => l.length) (fun l => pcells l) (fun _ _ => True)) _)
    (OwnFrom.and (Own.from (boxed_own (b + 1) 3 (fun _ => .int .i64 most)) _) (OwnFrom.and (ownFrom_pure _ (fun l : List (Nat × Nat) => (0 ≤ most → (l.length : Int) ≤ most))) (OwnFrom.and (fun _ _ _ _ hs hg _ => Nat.le_trans hs hg.size) (ownFrom_below h hB))))
theorem eql_fnP (f : Nat) (x y : Array Value) (w : World) : (binOp .eql 84 (.func (.func f) x y) .nilFunc).run Try.prog w = .ok (.bool false) w := by kernel_rfl
theorem blk_own (t : TypeId) (cs : Array Value) (bp B : Nat) : OwnFrom B (fun (_ : Unit) W => Blk W bp t cs) := fun _ X Y row hb hg hr =>
  show Y.heap[bp]? = _ from (hg.block bp hb.lt (fun e' => by
    obtain ⟨-, o, ho, hc⟩ := hr bp e'.symm
    rw [show X.heap[bp]? = _ from hb] at ho
    cases ho; cases hc)).trans hb
theorem cell_two_newP (W : World) (c m : Int) (e : TypeId) : ∀ j u, ([.int .i64 c, .int .i64 m] : List Value)[j]? = some u → (W.alloc (.cells #[.int .i64 c, .int .i64 m] e)).cell? ((⟨W.heap.size, 0, none⟩ : Addr).add j) = some u := by
  intro j u hj
  have hg := World.alloc_heap_new W (.cells #[.int .i64 c, .int .i64 m] e)
  rw [Addr.add_lit]
  match j, hj with
  | 0, hj => cases hj; simp only [World.cell?, hg]; rfl
  | 1, hj => cases hj; simp only [World.cell?, hg]; rfl
theorem one_twoP (c m : Int) : ∀ u ∈ ([.int .i64 c, .int .i64 m] : List Value), u.oneCell' = true := by
  intro u hu
  simp at hu
  rcases hu with rfl | rfl <;> rfl
theorem box_appP {W w1 : World} {hi b B : Nat} {t e : TypeId} {v v' : Value} {k m : Nat} {xs ys : List Value} {tmp : Obj}
    (hv : Boxed W B t v) (hte : t ≠ e) (hrow : W.ownsRow hi e 2 v k xs) (hhi : hi ≤ W.heap.size) (hbB : b ≤ B) (hBh : B < hi)
    (hown' : w1.ownsRow hi e 2 v' m ys) (hgrow : (W.alloc tmp).grownBy w1 v.ownBlock) :
    Boxed w1 B t v ∧ Boxed (w1.setCell ⟨B, 0, none⟩ v') B t v' ∧ (w1.setCell ⟨B, 0, none⟩ v').ownsRow hi e 2 v' m ys ∧ KeepsOthers W (w1.setCell ⟨B, 0, none⟩ v') ∧ Kept (fun q => q < hi ∧ q ≠ B) W (w1.setCell ⟨B, 0, none⟩ v') ∧ Below b W (w1.setCell ⟨B, 0, none⟩ v') := by
  have hv1 : Boxed w1 B t v := (hv.alloc tmp).kept hgrow (hv.not_row hte hrow)
  have hb : ∀ j, v.ownBlock = some j → hi ≤ j := fun j ej => (hrow.lt j ej).1
  refine ⟨hv1, hv1.set v', hown'.kept (grownBy_setCell' w1 B v') (.inr (hv1.not_row hte hown').symm), ?_, ⟨?_, fun k h1 => ?_⟩, ?_⟩
  · refine ((KeepsOthers.alloc W tmp).trans (KeepsOthers.of_grownBy hgrow fun j o ej hj => ?_)).trans (KeepsOthers.setCell _ _ _)
    rcases (hrow.alloc tmp).2 with ⟨rfl, _⟩ | ⟨g, cap, cur, rfl, _, hgb, _⟩
    · simp [Value.ownBlock] at ej
    · obtain rfl : g = j := by simpa [Value.ownBlock] using ej
      rw [hgb] at hj; cases hj; rfl
  · have h1 := hgrow.size
    have h2 := (grownBy_setCell' w1 B v').size
    rw [World.size_alloc] at h1
    omega
  · refine ((grownBy_setCell' w1 B v').block k (by have := hgrow.size; rw [World.size_alloc] at this; omega) (fun e => h1.2 (by cases e; rfl))).trans ((hgrow.block k (by rw [World.size_alloc]; omega) (fun e => ?_)).trans (Below.heap_alloc W tmp k (by omega)))
    have := hb k e.symm
    omega
  · exact (((Below.refl b W).alloc (by omega) tmp).grown hgrow (by rw [World.size_alloc]; omega) fun j ej => by have := hb j ej; omega).setCell (p := ⟨B, 0, none⟩) hbB v'
theorem own_low2 {w : World} {b1 b2 : Nat} {e : TypeId} {k : Nat} {v : Value} {n : Nat} {xs : List Value} (hb : b1 ≤ b2) (h : w.ownsRow b2 e k v n xs) : w.ownsRow b1 e k v n xs := by
  refine ⟨h.1, ?_⟩
  rcases h.2 with h0 | ⟨g, cap, cur, e1, hbg, h3⟩
  · exact .inl h0
  · exact .inr ⟨g, cap, cur, e1, Nat.le_trans hb hbg, h3⟩
set_option maxRecDepth 100000 in
set_option maxHeartbeats 4000000 in
theorem all_any (c : Cf) (hc : c.Fit) (hok : okC c = true) (k : Fl) (hk : k.Fit) (g : Nat) (most : Int) (w : World) (hF : Blk w g 73 (famC c)) :
    Calls Try.prog 22 #[.pointer (some ⟨g, 0, none⟩), .agg k.cs, .int .i64 most] w fun e w' => ∃ x, e = .returned x ∧ w'.ownsRow w.heap.size 41 2 x (cutP (plL c k) most).length (pcells (cutP (plL c k) most)) ∧ Below w.heap.size w w' := by
  obtain ⟨i0, hi, hz0, hz1, hz2⟩ := info_parts info41
  have CP := fun s W (h : Blk W g 73 (famC c)) => place_any c hc hok k hk g s W h
  have hl4 := plL_le c k hok
  have hi31 := fl_ik k hk
  generalize plL c k = L at *
  generalize k.cs = kc at *
  generalize famC c = fc at *
  refine (callsIn_wide (n := 3)).1 ?_
  refine callsIn_of_wp_marks Try.func22 rfl trivial ?_ rfl
  simp only [Try.ntmps22, List.size_toArray, List.length_cons, List.length_nil, Nat.reduceAdd, Nat.reduceSub, Array.replicate_succ, Array.replicate_zero, List.push_toArray, List.append_toArray, List.nil_append, List.cons_append]
  have hb3 : Below w.heap.size w (((w.alloc (.cells kc 31)).alloc (.cells #[.int .i64 most] 3)).alloc (.cells #[.slice none 0 0] 53)) :=
    (((Below.refl _ w).alloc (Nat.le_refl _) _).alloc (by simp) _).alloc (by simp; omega) _
  have x0 : Blk (((w.alloc (.cells kc 31)).alloc (.cells #[.int .i64 most] 3)).alloc (.cells #[.slice none 0 0] 53)) w.heap.size 31 kc := ((Blk.new w 31 kc).alloc _).alloc _
  have x1 := (Boxed.new (w.alloc (.cells kc 31)) 3 (.int .i64 most)).alloc (.cells #[.slice none 0 0] 53)
  have x2 := Boxed.new ((w.alloc (.cells kc 31)).alloc (.cells #[.int .i64 most] 3)) 53 (.slice none 0 0)
  simp only [World.size_alloc] at x1 x2
  obtain ⟨W, hW⟩ : ∃ W, W = ((w.alloc (.cells kc 31)).alloc (.cells #[.int .i64 most] 3)).alloc (.cells #[.slice none 0 0] 53) := ⟨_, rfl⟩
  rw [← hW] at hb3 x0 x1 x2
  have L1 := Lib.hid (run_blk_load (P := Try.prog) 31 w.heap.size _ x0 Try.underlying31 rfl hi31)
  rw [hW] at L1
  have HW := Lib.hid hW
  clear hW
  gi_wp2_with ((with_reducible refine wpListIn_load_want (op := ⟨some 11, .load 31 (.tmp 4), _, _, _, _⟩) ?wg1 31 (.tmp 4) ?wo1 ⟨w.heap.size, 0, none⟩ ?wx1 (.agg kc) L1.out ?_); (case wg1 => rfl); (case wo1 => rfl); (case wx1 => rfl))
  refine ⟨trivial, ?_⟩
  rw [← HW.out]
  have hWs : W.heap.size = w.heap.size + 3 := by rw [HW.out]; simp
  have hgw : g < w.heap.size := hF.lt
  have FW : Blk W g 73 fc := hF.below hb3 hgw
  clear HW L1
  refine (callsIn_wide.2 (places_any (some ⟨g, 0, none⟩) kc W)).mono ?_
  rintro e W0 ⟨rfl, h1, h2, h5⟩
  have hq := eql_fnP
  rw [hWs] at h1 h2 ⊢
  gi_wp2_with fail
  have hW0 := h5.size
  have hBs := h2.lt
  have hwW0 : Below w.heap.size w W0 := hb3.trans (h5.mono (by omega))
  have F0 : Blk W0 g 73 fc := FW.below h5 FW.lt
  have g0 : GotP w.heap.size W0.heap.size most w [] W0 :=
    ⟨⟨_, (h5.block _ (by omega)).trans x2, World.ownsRow_nil _ _ _ _, trivial⟩, (h5.block _ (by omega)).trans x1, fun h => by simpa using h, Nat.le_refl _, hwW0⟩
  refine wpIn_rangeFunc_ownH rfl (by omega) (gf := 48) (lb := #[.pointer (some ⟨w.heap.size + 3, 0, none⟩), .pointer (some ⟨w.heap.size + 3 + 1, 0, none⟩)]) rfl trivial (enters_of Try.func48 (by kernel_rfl) rfl)
    (itp_stops 2 (by omega) (w.heap.size + 3) (w.heap.size + 3 + 1) g L kc fc hi31 hl4 W0 CP h1 h2 F0) (fun h k => Kept.trans h k) (kept_b (fun k hk => by rcases hk with rfl | rfl | rfl <;> omega)) (Below.refl _ _) (fun _ => rfl)
    (GotP w.heap.size W0.heap.size most w)
    (fun c l W' => c = .exit 0 ∧ ∃ pre x, l = pre ++ [x] ∧ GotP w.heap.size W0.heap.size most w pre W' ∧ (pre.length : Int) = most)
    (GotP.own _ _ _ _ _ (Nat.le_refl _) (by omega))
    (fun c s A B row hs hg hr => by
      obtain ⟨e1, pre, x, e2, e3, e4⟩ := hs
      exact ⟨e1, pre, x, e2, GotP.own _ _ W0.heap.size _ _ (Nat.le_refl _) (by omega) pre A B row e3 hg hr, e4⟩)
    g0
    (fun x a' W' => ∃ bp, W0.heap.size ≤ bp ∧ Blk W' bp 41 (pcP x) ∧ a' = { tmps := #[.pointer (some ⟨g, 0, none⟩), .agg kc, .int .i64 most, undef, .pointer (some ⟨w.heap.size, 0, none⟩), .pointer (some ⟨w.heap.size + 1, 0, none⟩), .slice none 0 0, .pointer (some ⟨w.heap.size + 1 + 1, 0, none⟩), .func (.func 48) #[] #[.pointer (some ⟨w.heap.size + 3, 0, none⟩), .pointer (some ⟨w.heap.size + 3 + 1, 0, none⟩)], .pointer (some ⟨bp, 0, none⟩), .pointer (some ⟨g, 0, none⟩), .agg kc, .func (.func 48) #[] #[.pointer (some ⟨w.heap.size + 3, 0, none⟩), .pointer (some ⟨w.heap.size + 3 + 1, 0, none⟩)], .func (.func 48) #[] #[.pointer (some ⟨w.heap.size + 3, 0, none⟩), .pointer (some ⟨w.heap.size + 3 + 1, 0, none⟩)], .bool false, .func (.func 48) #[] #[.pointer (some ⟨w.heap.size + 3, 0, none⟩), .pointer (some ⟨w.heap.size + 3 + 1, 0, none⟩)], .agg (pcP x), undef, undef, undef, undef, undef, undef, undef, undef, undef], defers := [] })
    (fun x a' _ A B row hs hg hr => by
      obtain ⟨bp, e1, e2, e3⟩ := hs
      exact ⟨bp, e1, blk_own _ _ bp _ () A B row e2 hg hr, e3⟩)
    ?assign ?body ?done ?stop
  case assign =>
    intro l pre x W' K hI hK
    have hsz := hI.2.2.2.1
    have h1l := h1.lt
    have HI := Lib.hid (GotP.own w.heap.size W0.heap.size W0.heap.size most w (Nat.le_refl _) (by omega))
    have HR := Lib.hid (And.intro hb3 (And.intro x0 (And.intro x1 (And.intro x2 (And.intro h1 (And.intro h2 (And.intro h5 (And.intro hwW0 g0))))))))
    clear CP hb3 x0 x1 x2 h1 h2 h5 hwW0 g0 hq
    unfold pcP at hK ⊢
    gi_wp2
    exact hK _ _ ((KeepsOthers.alloc _ _).from _) (Kept.below ((Below.refl _ W').alloc (Nat.le_refl _) _) (fun k hk => by rcases hk with rfl | rfl | rfl <;> omega)) (HI.out.alloc _ hI) ⟨W'.heap.size, hsz, Blk.new _ _ _, rfl⟩
  case body =>
    rintro l pre x a' W' hwl hrec ⟨⟨v1, bx1, r1, _⟩, bxm, hle, hhi, hB⟩ ⟨bp, hbp, hbb, rfl⟩ hlt
    have hpl : pre.length ≤ 4 := by omega
    have HRest := Lib.hid (And.intro hb3 (And.intro x0 (And.intro x1 (And.intro x2 (And.intro h1 (And.intro h2 (And.intro h5 (And.intro hwW0 g0))))))))
    have HRec := Lib.hid hrec
    clear CP hb3 x0 x1 x2 h1 h2 h5 hwW0 g0 hq hrec
    obtain ⟨a1, k1, rfl⟩ := row_shape r1
    have c1 := bx1.cell
    have cm := bxm.cell
    have p0 : W'.cell? ⟨bp, 0, none⟩ = some (.int .i64 (x.1 : Int)) := hbb.cell 0
    have p1 : W'.cell? ⟨bp, 1, none⟩ = some (.int .i64 (x.2 : Int)) := hbb.cell 1
    by_cases hm : (pre.length : Int) = most
    · have hmq : (((pre.length : Nat) : Int) == most) = true := by rw [beq_iff_eq]; exact hm
      have HM := Lib.hid hm
      have HLt := Lib.hid hlt
      have HLe := Lib.hid hle
      clear hm hlt hle
      gi_wp2
      refine ⟨KeepsFrom.refl _ _, rfl, pre, x, rfl, ⟨⟨_, bx1, r1, trivial⟩, bxm, HLe.out, hhi, hB⟩, HM.out⟩
    · have hmq : (((pre.length : Nat) : Int) == most) = false := by rw [beq_eq_false_iff_ne]; exact hm
      have HM := Lib.hid hm
      have HLt := Lib.hid hlt
      have HLe := Lib.hid hle
      clear hm hlt hle
      gi_wp2_with (gi_at_builtin; refine wpListIn_append_own _ rfl _ _ 53 rfl W0.heap.size 41 i0 _ 2 16 Try.underlying53 hi hz0 hz1 hz2 rfl (by decide) _ _ _ rfl (r1.alloc _) ⟨W'.heap.size, 0, none⟩ 1 1 [.int .i64 (x.1 : Int), .int .i64 (x.2 : Int)] rfl rfl (cell_two_newP _ _ _ _) (one_twoP _ _) (by unfold maxLen; omega) (by omega) (by rw [World.size_alloc]; omega) ?_; intro v' w1 hown' hgrow _; obtain ⟨g', cap', rfl⟩ := ownsRow_succ hown'; obtain ⟨hv1, hv2, hr2, hk2, hm2, hb2⟩ := box_appP bx1 (by decide) r1 hhi (show w.heap.size ≤ w.heap.size + 2 by omega) (by omega) hown' hgrow; have hc1 := hv1.cell; have hf1 := hv1.frozen)
      have hmo := HM.out
      have hlo := HLe.out
      refine ⟨hk2.from _, ⟨hm2.1, fun q hq => hm2.2 q (by rcases hq with rfl | rfl | rfl <;> omega)⟩, ⟨⟨_, hv2, by rw [List.length_append, pcells_append]; exact hr2, trivial⟩, ((bxm.alloc _).kept hgrow (bxm.not_row (by decide) r1)).other (by omega) _, fun h => ?_, Nat.le_trans hhi hk2.size, hB.trans (hb2.mono (Nat.le_refl _))⟩⟩
      have := hlo h
      rw [List.length_append, List.length_singleton]; push_cast; omega
  case done =>
    rintro D ys Wn hD hys ⟨⟨v1, bx1, r1, _⟩, bxm, hle, hhi, hB⟩ hK
    have c1 := bx1.cell
    have HWD : Hid (cutP L most = ys) := by subst hys; exact cutP_done _ _ hle
    have HR1 := Lib.hid r1
    clear hys r1 hle CP hb3 x0 x1 x2 h1 h2 h5 hBs hwW0 g0 hq
    gi_wp2
    refine ⟨by simp, .inl ⟨_, _, rfl, run_takeDeferred hK, ?_⟩⟩
    refine ⟨_, results_tmp rfl _ _ _, v1, rfl, ?_, hB.trans (belowK_b (w := w) (Nat.le_refl _) Wn D _ _ (by omega) hK rfl rfl)⟩
    rw [HWD.out]; exact own_low2 (by omega) (ownsRow_putObj HR1.out _ hK rfl)
  case stop =>
    rintro D c l Wn hD ⟨k, hk, hl⟩ ⟨rfl, pre, x, e, ⟨⟨v1, bx1, r1, _⟩, bxm, hle, hhi, hB⟩, hm⟩ hK
    have c1 := bx1.cell
    have HWD : Hid (cutP L most = pre) := cutP_stop L pre most x k (by rw [← e, hl]) hm
    have HR1 := Lib.hid r1
    clear hl e hm r1 hle CP hb3 x0 x1 x2 h1 h2 h5 hBs hwW0 g0 hq
    gi_wp2
    refine ⟨by simp, .inl ⟨_, _, rfl, run_takeDeferred hK, ?_⟩⟩
    refine ⟨_, results_tmp rfl _ _ _, v1, rfl, ?_, hB.trans (belowK_b (w := w) (Nat.le_refl _) Wn D _ _ (by omega) hK rfl rfl)⟩
    rw [HWD.out]; exact own_low2 (by omega) (ownsRow_putObj HR1.out _ hK rfl)
end Go.Proofs.Ytblkpnjmmdbgnaa
namespace Go.Proofs.Ytblkpnjmmdbgnaa
open Go.RowKit Go.Lib
theorem i64_wf (n : Int) (h1 : -9223372036854775808 ≤ n) (h2 : n ≤ 9223372036854775807) : (Lit.int .i64 n).wf = true := by
  simp [Lit.wf, IntKind.min, IntKind.max, IntKind.signed, IntKind.bits]
  omega
theorem key_i64 (d : Nat) (n : Int) (h : (Lit.int .i64 n).wf = true) : Try.prog.keyLits (d + 1) 3 [.int .i64 n] = some [.int .i64 n] := by
  unfold Program.keyLits
  rw [Try.underlying3]
  simp [h]
theorem lits41 (a b : Int) (ha : (Lit.int .i64 a).wf = true) (hb : (Lit.int .i64 b).wf = true) : Try.prog.keyLits 2 41 [.int .i64 a, .int .i64 b] = some [.int .i64 a, .int .i64 b] := by
  unfold Program.keyLits
  rw [Try.underlying41]
  have hc : Try.prog.cellsOf 3 = 1 := by kernel_rfl
  have hc2 : Try.prog.cellsOf 41 = 2 := by kernel_rfl
  simp [hc, hc2, key_i64 0 a ha, key_i64 0 b hb]
theorem formed41 (a b : Value) : (Value.agg #[a, b]).formed Try.prog 41 = true := by
  have hc : Try.prog.cellsOf 41 = 2 := by kernel_rfl
  simp [Value.formed, Try.underlying41, hc]
theorem eq_pl (a b a' b' : Int) (ha : (Lit.int .i64 a).wf = true) (hb : (Lit.int .i64 b).wf = true) (ha' : (Lit.int .i64 a').wf = true) (hb' : (Lit.int .i64 b').wf = true) (w : World) : (Op.equalIn Op.maxDepth 41 (.agg #[.int .i64 a, .int .i64 b]) (.agg #[.int .i64 a', .int .i64 b'])).run Try.prog w = .ok (decide (a = a' ∧ b = b')) w := by
  obtain ⟨r, hr, he⟩ := run_equalIn_deep (P := Try.prog) 9998 2 41 (by kernel_rfl) w 2 2 _ _ _ _ (formed41 _ _) (formed41 _ _) (lits41 a b ha hb) (lits41 a' b' ha' hb')
  have e : r = decide (a = a' ∧ b = b') := by
    rw [Bool.eq_iff_iff, he, decide_eq_true_iff]
    simp
  rw [← e]
  exact hr
theorem eq_place (s i : Nat) (hs : s < 4294967296) (hi : i < 4294967296) (w : World) : (Op.equalIn Op.maxDepth 41 (.agg #[.int .i64 (s : Int), .int .i64 (i : Int)]) (.agg #[.int .i64 (s : Int), .int .i64 (i : Int)])).run Try.prog w = .ok true w := by
  rw [eq_pl _ _ _ _ (i64_wf _ (by omega) (by omega)) (i64_wf _ (by omega) (by omega)) (i64_wf _ (by omega) (by omega)) (i64_wf _ (by omega) (by omega))]
  simp
theorem plN_lt (c : Cf) (k : Fl) (s : Nat) (h : okC c = true) : plN c k s < 4294967296 := by
  have := okC_sz h
  unfold plN
  exact Nat.lt_of_lt_of_le (Nat.mod_lt _ (by omega)) (by omega)
theorem guard41 (op : BinOp) (x y : Operand) (A B : Array Value) (w : World) (hop : op = .eql ∨ op = .neq) : (eqGuard op 41 x y (.agg A) (.agg B)).run Try.prog w = .ok () w := by
  unfold eqGuard
  rcases hop with rfl | rfl <;> simp
theorem exec_eql {w : World} {o : Oper} {a : Act} (x y : Operand) (ho : o.op = .binOp .eql 41 x y 41) (A B : Array Value) (hx : a.eval x = .agg A) (hy : a.eval y = .agg B) (r : Bool) (hq : (Op.equalIn Op.maxDepth 41 (.agg A) (.agg B)).run Try.prog w = .ok r w) : (execOp a.eval o).run Try.prog w = .ok (.value (.bool r)) w := by
  unfold execOp
  simp only [ho, hx, hy, binOp, Op.equal, Sem.run_bind, guard41 _ x y A B w (.inl rfl), hq, Result.andThen_ok, Sem.run_pure]
theorem exec_neq {w : World} {o : Oper} {a : Act} (x y : Operand) (ho : o.op = .binOp .neq 41 x y 41) (A B : Array Value) (hx : a.eval x = .agg A) (hy : a.eval y = .agg B) (r : Bool) (hq : (Op.equalIn Op.maxDepth 41 (.agg A) (.agg B)).run Try.prog w = .ok r w) : (execOp a.eval o).run Try.prog w = .ok (.value (.bool (!r))) w := by
  unfold execOp
  simp only [ho, hx, hy, binOp, Op.equal, Sem.run_bind, guard41 _ x y A B w (.inr rfl), hq, Result.andThen_ok, Sem.run_pure]
end Go.Proofs.Ytblkpnjmmdbgnaa
namespace Go.Proofs.Ytblkpnjmmdbgnaa
open Go.RowKit Go.Lib
set_option maxRecDepth 100000 in
set_option maxHeartbeats 4000000 in
theorem bits_nil (k : Fl) (hk : k.Fit) (w : World) :
    Calls Try.prog 18 #[.pointer none, .agg k.cs] w fun e w' => e = .returned (.slice none 0 0) ∧ Below w.heap.size w w' := by
  have K := Lib.hid (Below.refl w.heap.size w)
  have CR := Lib.hid (fun W => row_nil k hk W)
  obtain ⟨a0, a1, a18, a35, a36⟩ := fl_get k hk
  have G0 := Lib.hid a0
  have G1 := Lib.hid a1
  have G18 := Lib.hid a18
  have G35 := Lib.hid a35
  have G36 := Lib.hid a36
  have KP1 := Lib.hid (fl_src k)
  have KP2 := Lib.hid (fl_dst k hk)
  have IS := Lib.hid (fl_is k hk)
  have ID := Lib.hid (fl_id k hk)
  have IK := Lib.hid (fl_ik k hk)
  clear a0 a1 a18 a35 a36
  generalize k.cs = kc at *
  generalize cellsA k.sv k.S = S at *
  generalize cellsA k.dv k.D = D at *
  generalize k.p = p at *
  generalize k.sv = sv at *
  generalize k.dv = dv at *
  generalize k.sp = sp at *
  generalize k.dp = dp at *
  clear hk
  go_enter Try.func18, Try.ntmps18
  have hal := (Below.refl w.heap.size w).alloc (Nat.le_refl _) (.cells kc 31)
  replace K := Lib.hid (K.out.trans (hal.mono K.out.size))
  have N := Lib.hid (Blk.new w 31 kc)
  clear hal
  have L1 : (loadVar 31 ⟨w.heap.size, 0, none⟩).run Try.prog (w.alloc (.cells kc 31)) = .ok (.agg kc) (w.alloc (.cells kc 31)) := run_blk_load (P := Try.prog) 31 (w.heap.size) _ N.out Try.underlying31 rfl IK.out
  replace L1 := Lib.hid L1
  go_wp2_with (((with_reducible refine wpList_load_want (op := ⟨some 9, .load 31 (.tmp 3), _, _, _, _⟩) ?wg1 31 (.tmp 3) ?wo1 ⟨w.heap.size, 0, none⟩ ?wx1 (.agg kc) L1.out ?_); (case wg1 => rfl); (case wo1 => rfl); (case wx1 => rfl)))
  clear L1
  have hzV1 : Hid ((w.alloc (.cells kc 31)).heap.size = w.heap.size + 1) := by show _ = _; simp only [World.size_alloc]
  generalize (w.alloc (.cells kc 31)) = V1 at *
  refine (CR.out V1).mono ?_
  rintro e V2 ⟨rfl, hy⟩
  replace K := Lib.hid (K.out.trans (hy.mono K.out.size))
  replace N := Lib.hid (N.out.below hy N.out.lt)
  clear hy
  have hqn := eqn_nil
  go_wp2
  go_ret
  exact ⟨rfl, K.out⟩
set_option maxRecDepth 100000 in
set_option maxHeartbeats 4000000 in
theorem bits_no (k : Fl) (hk : k.Fit) (hv : vK k = false) (g : Nat) (w : World) :
    Calls Try.prog 18 #[.pointer (some ⟨g, 0, none⟩), .agg k.cs] w fun e w' => e = .returned (.slice none 0 0) ∧ Below w.heap.size w w' := by
  have K := Lib.hid (Below.refl w.heap.size w)
  have CR := Lib.hid (fun W => row_no k hk hv g W)
  obtain ⟨a0, a1, a18, a35, a36⟩ := fl_get k hk
  have G0 := Lib.hid a0
  have G1 := Lib.hid a1
  have G18 := Lib.hid a18
  have G35 := Lib.hid a35
  have G36 := Lib.hid a36
  have KP1 := Lib.hid (fl_src k)
  have KP2 := Lib.hid (fl_dst k hk)
  have IS := Lib.hid (fl_is k hk)
  have ID := Lib.hid (fl_id k hk)
  have IK := Lib.hid (fl_ik k hk)
  clear a0 a1 a18 a35 a36
  generalize k.cs = kc at *
  generalize cellsA k.sv k.S = S at *
  generalize cellsA k.dv k.D = D at *
  generalize k.p = p at *
  generalize k.sv = sv at *
  generalize k.dv = dv at *
  generalize k.sp = sp at *
  generalize k.dp = dp at *
  clear hk hv
  go_enter Try.func18, Try.ntmps18
  have hal := (Below.refl w.heap.size w).alloc (Nat.le_refl _) (.cells kc 31)
  replace K := Lib.hid (K.out.trans (hal.mono K.out.size))
  have N := Lib.hid (Blk.new w 31 kc)
  clear hal
  have L2 : (loadVar 31 ⟨w.heap.size, 0, none⟩).run Try.prog (w.alloc (.cells kc 31)) = .ok (.agg kc) (w.alloc (.cells kc 31)) := run_blk_load (P := Try.prog) 31 (w.heap.size) _ N.out Try.underlying31 rfl IK.out
  replace L2 := Lib.hid L2
  go_wp2_with (((with_reducible refine wpList_load_want (op := ⟨some 9, .load 31 (.tmp 3), _, _, _, _⟩) ?wg2 31 (.tmp 3) ?wo2 ⟨w.heap.size, 0, none⟩ ?wx2 (.agg kc) L2.out ?_); (case wg2 => rfl); (case wo2 => rfl); (case wx2 => rfl)))
  clear L2
  have hzV1 : Hid ((w.alloc (.cells kc 31)).heap.size = w.heap.size + 1) := by show _ = _; simp only [World.size_alloc]
  generalize (w.alloc (.cells kc 31)) = V1 at *
  refine (CR.out V1).mono ?_
  rintro e V2 ⟨rfl, hy⟩
  replace K := Lib.hid (K.out.trans (hy.mono K.out.size))
  replace N := Lib.hid (N.out.below hy N.out.lt)
  clear hy
  have hqn := eqn_nil
  go_wp2
  go_ret
  exact ⟨rfl, K.out⟩
set_option maxRecDepth 100000 in
set_option maxHeartbeats 4000000 in
theorem bits_yes (c : Cf) (hc : c.Fit) (hok : okC c = true) (k : Fl) (hk : k.Fit) (hv : vK k = true) (g : Nat) (w : World) (hF : Blk w g 73 (famC c)) :
    Calls Try.prog 18 #[.pointer (some ⟨g, 0, none⟩), .agg k.cs] w fun e w' => ∃ x, e = .returned x ∧ Rd w' x (nus .i64 (btL c k c.hs.toNat)) ∧ Below w.heap.size w w' := by
  have K := Lib.hid (Below.refl w.heap.size w)
  have F := Lib.hid hF
  have CR := Lib.hid (fun W => row_yes k hk hv g W)
  have HL := Lib.hid (bK_ne hv)
  obtain ⟨b1, b2⟩ := okC_hs hok
  obtain ⟨b3, b4⟩ := okC_bl hok
  obtain ⟨n, hn⟩ : ∃ n : Nat, c.hs = (n : Int) := ⟨c.hs.toNat, by omega⟩
  obtain ⟨m, hm⟩ : ∃ m : Nat, c.bl = (m : Int) := ⟨c.bl.toNat, by omega⟩
  have hn1 : 1 ≤ n := by omega
  have hn2 : n ≤ 4 := by omega
  obtain ⟨f, hf⟩ : ∃ f : Nat → Nat, f = fun i => hsB c.sd (16 + i) (bK k) % m := ⟨_, rfl⟩
  have hr : btL c k c.hs.toNat = (List.range n).map f := by unfold btL hsh; rw [hn, hm, hf, Int.toNat_natCast, Int.toNat_natCast]
  rw [hr]
  have CB := Lib.hid (fun i (hi : i < n) v W h1 h2 => below_any c hc (16 + i) (by omega) m (by omega) (by omega) g v (bK k) (bK_lt k hk) W h1 h2)
  have hf2 : ∀ i, hsB c.sd (16 + i) (bK k) % m = f i := fun i => by rw [hf]
  simp only [hf2] at CB
  obtain ⟨-, -, -, -, f4, f5⟩ := fam_get tabs4 c tabs4_len
  have FB := Lib.hid f4
  have FN := Lib.hid f5
  change Hid ((famC c)[1028]? = _) at FB
  change Hid ((famC c)[1029]? = _) at FN
  rw [hm] at FB
  rw [hn] at FN
  obtain ⟨a0, a1, a18, a35, a36⟩ := fl_get k hk
  have G0 := Lib.hid a0
  have G1 := Lib.hid a1
  have G18 := Lib.hid a18
  have G35 := Lib.hid a35
  have G36 := Lib.hid a36
  have KP1 := Lib.hid (fl_src k)
  have KP2 := Lib.hid (fl_dst k hk)
  have IS := Lib.hid (fl_is k hk)
  have ID := Lib.hid (fl_id k hk)
  have IK := Lib.hid (fl_ik k hk)
  clear a0 a1 a18 a35 a36
  generalize bK k = bs at *
  generalize k.cs = kc at *
  generalize cellsA k.sv k.S = S at *
  generalize cellsA k.dv k.D = D at *
  generalize k.p = p at *
  generalize k.sv = sv at *
  generalize k.dv = dv at *
  generalize k.sp = sp at *
  generalize k.dp = dp at *
  generalize famC c = fc at *
  have qF : g < w.heap.size := hF.lt
  clear hk hv hF hc hok b1 b2 b3 b4 hn hm hf hr hf2 f4 f5
  have hnm : n ≤ 1048576 := by omega
  go_enter Try.func18, Try.ntmps18
  have hal := (Below.refl w.heap.size w).alloc (Nat.le_refl _) (.cells kc 31)
  replace K := Lib.hid (K.out.trans (hal.mono K.out.size))
  replace F := Lib.hid (F.out.below hal F.out.lt)
  have N := Lib.hid (Blk.new w 31 kc)
  clear hal
  have L3 : (loadVar 31 ⟨w.heap.size, 0, none⟩).run Try.prog (w.alloc (.cells kc 31)) = .ok (.agg kc) (w.alloc (.cells kc 31)) := run_blk_load (P := Try.prog) 31 (w.heap.size) _ N.out Try.underlying31 rfl IK.out
  replace L3 := Lib.hid L3
  go_wp2_with (((with_reducible refine wpList_load_want (op := ⟨some 9, .load 31 (.tmp 3), _, _, _, _⟩) ?wg3 31 (.tmp 3) ?wo3 ⟨w.heap.size, 0, none⟩ ?wx3 (.agg kc) L3.out ?_); (case wg3 => rfl); (case wo3 => rfl); (case wx3 => rfl)))
  clear L3
  have hzV1 : Hid ((w.alloc (.cells kc 31)).heap.size = w.heap.size + 1) := by show _ = _; simp only [World.size_alloc]
  generalize (w.alloc (.cells kc 31)) = V1 at *
  refine (CR.out V1).mono ?_
  rintro e V2 ⟨b, o, cp, rfl, hx, hy⟩
  replace K := Lib.hid (K.out.trans (hy.mono K.out.size))
  replace F := Lib.hid (F.out.below hy F.out.lt)
  replace N := Lib.hid (N.out.below hy N.out.lt)
  have X := Lib.hid (hx)
  clear hx
  clear hy
  have hqn := eqn_some
  have HQ := HL.out
  have L4 := (F.out.cell 1029).trans FN.out
  have qK := K.out.size
  have qX := rd_lt X.out HL.out
  go_wp2_with (at_make; refine wpList_ints rfl _ _ rfl n hnm rfl rfl ?_)
  clear L4
  intro V3 hZ hy
  replace K := Lib.hid (K.out.trans (hy.mono K.out.size))
  replace F := Lib.hid (F.out.below hy F.out.lt)
  replace N := Lib.hid (N.out.below hy N.out.lt)
  replace X := Lib.hid (X.out.below hy)
  have Z0 := Lib.hid hZ
  clear hZ hy
  obtain ⟨gB, hgB⟩ : ∃ gB, gB = V2.heap.size := ⟨_, rfl⟩
  rw [← hgB] at Z0 ⊢
  rw [← hgB] at qK qX
  have HBN : Hid (b ≠ gB) := by show b ≠ gB; omega
  clear hgB
  obtain ⟨O, hO⟩ : ∃ O, O = List.replicate n 0 := ⟨_, rfl⟩
  have HU0 : Hid (UpTo f n 0 O) := ⟨by rw [hO]; exact List.length_replicate, fun j h => by omega⟩
  rw [← hO] at Z0
  clear hO
  have HALL := Lib.hid (fun L (h : UpTo f n n L) => h.all)
  go_wp2
  go_loopw [20] (fun i wr => ∃ (k : Nat) (L : List Nat), k ≤ n ∧ i = .int .i64 (k : Int) ∧ Hid (UpTo f n k L) ∧ Hid (Blk wr gB 3 (nus .i64 L).toArray) ∧ Hid (Blk wr g 73 fc) ∧ Hid (Rd wr (.slice (some ⟨b, o, none⟩) bs.length cp) (nus .u8 bs)) ∧ Hid (Below w.heap.size w wr)) (fun i _ => n - (RowKit.intOf i).toNat)
  case atStart => exact ⟨0, O, by omega, rfl, HU0, Z0, F, X, K⟩
  case round =>
    obtain ⟨k, L, hk, rfl, hU, Zr, Fr, Xr, Kr⟩ := hrel
    clear Z0 F X K HU0 N
    by_cases hlt : k < n
    · have d8 : decide ((k : Int) < (n : Int)) = true := decide_eq_true (by omega)
      have d9 : decide (k < n) = true := decide_eq_true (by omega)
      have CBk := Lib.hid (CB.out k hlt)
      rw [show ((16 + k : Nat) : Int) = 16 + (k : Int) from by omega] at CBk
      have hUN := Lib.hid (hU.out.next hlt)
      have w6 : IntKind.i64.wrap (16 + (k : Int)) = 16 + (k : Int) := by rw [IntKind.wrap_i64]; omega
      have hLl := hU.out.1
      generalize f k = r at *
      have L5 := (Fr.out.cell 1028).trans FB.out
      go_wp2_with fail
      clear L5
      refine (CBk.out _ wr Fr.out Xr.out).mono ?_
      rintro e V5 ⟨rfl, hy⟩
      replace Zr := Lib.hid (Zr.out.below hy Zr.out.lt)
      replace Fr := Lib.hid (Fr.out.below hy Fr.out.lt)
      replace Xr := Lib.hid (Xr.out.below hy)
      replace Kr := Lib.hid (Kr.out.trans (hy.mono Kr.out.size))
      clear hy
      have c3 := Zr.out.cell k
      rw [nusa_at _ _ _ (by omega)] at c3
      have c4 := Zr.out.frozen k
      generalize L.getD k 0 = z at c3
      have Z2' := Zr.out.set_ k (.int .i64 (r : Int))
      rw [nusa_set] at Z2'
      have Z2 := Lib.hid Z2'
      have F2 := Lib.hid (Fr.out.far (p := ⟨gB, k, none⟩) (by show g ≠ gB; omega) (.int .i64 (r : Int)))
      have K2 := Lib.hid (Kr.out.setCell (p := ⟨gB, k, none⟩) (by show _ ≤ gB; omega) (.int .i64 (r : Int)))
      have X2 := Lib.hid (rd_kept Xr.out (Below.heap_setCell _ ⟨gB, k, none⟩ (.int .i64 (r : Int)) b HBN.out))
      clear Z2'
      go_wp2
      go_roundw
      case rel => exact ⟨k + 1, _, Nat.succ_le_of_lt hlt, by go_num, hUN, Z2, F2, X2, K2⟩
      case measure => simp [RowKit.intOf]; omega
    · obtain rfl : k = n := by omega
      have d8 : decide (((k : Nat) : Int) < (k : Int)) = false := decide_eq_false (by omega)
      have d9 : decide (k < k) = false := decide_eq_false (by omega)
      have hl := hU.out.1
      obtain rfl := HALL.out _ hU.out
      clear hU
      go_wp2
      go_ret
      exact ⟨_, rfl, rd_blk k hl (by unfold maxLen; omega) Zr.out, Kr.out⟩
end Go.Proofs.Ytblkpnjmmdbgnaa
