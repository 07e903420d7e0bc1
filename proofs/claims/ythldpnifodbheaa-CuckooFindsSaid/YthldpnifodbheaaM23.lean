/- Texts that the walks of this seat lean on, put together. -/
import Derived.DeepKeys
import Derived.Handy
import Derived.LoopTactic
import Derived.RangeFuncRecord
import Derived.Deep.RegionHeld
import Derived.RangeFuncNested
import Derived.RangeFuncCalls
import Derived.OrdersIn
import Derived.TacticsIn
import Derived.RowKit
import Derived.Test.YthldpnifodbheaaTk
import Derived.Test.YthldpnifodbheaaTl
import Derived.Test.YthldpnifodbheaaM09
import Derived.Test.YthldpnifodbheaaM11
import Derived.Test.YthldpnifodbheaaM14
import Derived.Test.YthldpnifodbheaaM15
import Derived.Test.YthldpnifodbheaaM17
import Derived.Test.YthldpnifodbheaaM18
import Derived.Test.YthldpnifodbheaaM20
import Derived.Test.YthldpnifodbheaaM21
import Derived.Test.YthldpnifodbheaaM22
namespace Go.Proofs.Ythldpnifodbheaa
open Go.RowKit Go.Shelf
attribute [local go_sem] Oper.semAt_some
def plL (c : Cf) (k : Fl) : List (Nat × Nat) := if vK k then (List.range c.st.toNat).map fun s => (s, plN c k s) else []
set_option maxRecDepth 100000 in
theorem plL_no {c : Cf} {k : Fl} (h : vK k = false) : plL c k = [] := by unfold plL; rw [h]; rfl
set_option maxRecDepth 100000 in
theorem plL_yes {c : Cf} {k : Fl} (h : vK k = true) : plL c k = (List.range c.st.toNat).map fun s => (s, plN c k s) := by unfold plL; rw [h, if_pos rfl]
set_option maxRecDepth 100000 in
theorem plL_len (c : Cf) (k : Fl) (h : vK k = true) : (plL c k).length = c.st.toNat := by rw [plL_yes h, List.length_map, List.length_range]
set_option maxRecDepth 100000 in
theorem plL_get (c : Cf) (k : Fl) (h : vK k = true) (s : Nat) (hs : s < c.st.toNat) : (plL c k).getD s (0, 0) = (s, plN c k s) := by
  rw [plL_yes h, List.getD_eq_getElem?_getD, List.getElem?_map, List.getElem?_range hs, Option.map_some, Option.getD_some]
set_option maxRecDepth 100000 in
theorem plL_le (c : Cf) (k : Fl) (hok : okC c = true) : (plL c k).length ≤ 4 := by
  cases h : vK k with
  | false => rw [plL_no h]; exact Nat.zero_le _
  | true => rw [plL_len c k h]; have := okC_st hok; omega
set_option maxRecDepth 100000 in
theorem place_any (c : Cf) (hc : c.Fit) (hok : okC c = true) (k : Fl) (hk : k.Fit) (g s : Nat) (w : World) (hF : Blk w g 110 (famC c)) :
    Calls Try.prog 63 #[.pointer (some ⟨g, 0, none⟩), .agg k.cs, .int .i64 (s : Int)] w fun e w' => e = .returned (.tuple #[.agg #[.int .i64 (((plL c k).getD s (0, 0)).1 : Int), .int .i64 (((plL c k).getD s (0, 0)).2 : Int)], .bool (decide (s < (plL c k).length))]) ∧ Below w.heap.size w w' := by
  obtain ⟨b1, b2⟩ := okC_st hok
  cases hv : vK k with
  | false =>
    rw [plL_no hv]
    exact place_no c k hk hv s g w hF
  | true =>
    by_cases h : (s : Int) < c.st
    · have hs : s < c.st.toNat := by omega
      rw [plL_get c k hv s hs, plL_len c k hv, decide_eq_true hs]
      exact place_yes c hc hok k hk hv s ⟨by omega, h⟩ g w hF
    · have hs : ¬ s < c.st.toNat := by omega
      rw [plL_len c k hv, decide_eq_false hs, List.getD_eq_getElem?_getD, List.getElem?_eq_none (by rw [plL_len c k hv]; omega)]
      exact place_high c k hk hv s ⟨by omega, by omega⟩ g w hF
set_option maxRecDepth 100000 in
set_option maxHeartbeats 1000000 in
theorem places_any (p : Option Addr) (kc : Array Value) (w : World) :
    Calls Try.prog 40 #[.pointer p, .agg kc] w fun e w' => e = .returned (.func (.func 62) #[] #[.pointer (some ⟨w.heap.size, 0, none⟩), .pointer (some ⟨w.heap.size + 1, 0, none⟩)]) ∧ Boxed w' w.heap.size 68 (.pointer p) ∧ Blk w' (w.heap.size + 1) 42 kc ∧ Below w.heap.size w w' := by
  have b1 := (Boxed.new w 68 (.pointer p)).alloc (.cells kc 42)
  have b2 : Blk ((w.alloc (.cells #[.pointer p] 68)).alloc (.cells kc 42)) (w.heap.size + 1) 42 kc := by rw [← World.size_alloc w (.cells #[.pointer p] 68)]; exact Blk.new _ _ _
  have K := lh (((Below.refl w.heap.size w).alloc (Nat.le_refl _) (.cells #[.pointer p] 68)).alloc (by simp) (.cells kc 42))
  have B1 := lh b1
  have B2 := lh b2
  clear b1 b2
  go_enter Try.func40, Try.ntmps40
  go_wp2
  go_ret
  exact ⟨rfl, B1.out, B2.out, K.out⟩
def Kept (S : Nat → Prop) (A B : World) : Prop := A.heap.size ≤ B.heap.size ∧ ∀ k, S k → B.heap[k]? = A.heap[k]?
set_option maxRecDepth 100000 in
theorem Kept.refl (S : Nat → Prop) (A : World) : Kept S A A := ⟨Nat.le_refl _, fun _ _ => rfl⟩
set_option maxRecDepth 100000 in
theorem Kept.trans {S : Nat → Prop} {A B C : World} (h : Kept S A B) (k : Kept S B C) : Kept S A C := ⟨Nat.le_trans h.1 k.1, fun i hi => (k.2 i hi).trans (h.2 i hi)⟩
set_option maxRecDepth 100000 in
theorem Kept.below {S : Nat → Prop} {A B : World} {n : Nat} (h : Below n A B) (hS : ∀ k, S k → k < n) : Kept S A B := ⟨h.size, fun k hk => h.block k (hS k hk)⟩
set_option maxRecDepth 100000 in
theorem kept_b {S : Nat → Prop} {w : World} (hS : ∀ k, S k → k < w.heap.size) (W : World) (l : Nat) (o o' : Obj) (hl : w.heap.size ≤ l) (h : W.heap[l]? = some o) (hc : o.isCells = false) (hw : o.isWalk = false) : Kept S W (W.putObj l o') :=
  Kept.below (belowK_b (Nat.le_refl _) W l o o' hl h hc hw) hS
set_option maxRecDepth 100000 in
theorem wpListIn_load_want {F : Fence} {n : Nat} {P : Program} {ops : Array Oper} {rest : List Oper} {op : Oper} {a : Act} {w : World} {Q : Exit → Act → World → Prop} (hw : Region.wanted op (yielded ops a.tmps) = true) (ty : TypeId) (x : Operand) (ho : op.op = .load ty x)
    (p : Addr) (hx : a.eval x = .pointer (some p)) (v : Value) (hl : (loadVar ty p).run P w = .ok v w) (h : wpListIn F n P ops Q rest (a.put op.dst v) w) : wpListIn F n P ops Q (op :: rest) a w :=
  BigFrame.wpListIn_want hw fun K hK => by
    refine ⟨fun f hf => ?_, ?_⟩
    · simp [Oper.about, ho] at hf
    · rw [Oper.semAt_eq _ _ _ (by simp [ho]), exec_load ty x ho p hx v hl]
      exact hK _ _ h
set_option maxRecDepth 100000 in
theorem take_snocP (L : List (Nat × Nat)) (k : Nat) (h : k < L.length) : L.take k ++ [L.getD k (0, 0)] = L.take (k + 1) := by
  rw [List.take_add_one, List.getD_eq_getElem?_getD, List.getElem?_eq_getElem h]; rfl
def pcP (x : Nat × Nat) : Array Value := #[.int .i64 (x.1 : Int), .int .i64 (x.2 : Int)]
set_option maxRecDepth 100000 in
set_option maxHeartbeats 4000000 in
theorem itp_in (n : Nat) (hn : 1 ≤ n) (l Bf Bk g len : Nat) (L : List (Nat × Nat)) (hL : len = L.length) (kc fc : Array Value) (hi31 : (Try.prog.info? 42).map (·.size) = some kc.size) (hl4 : len ≤ 4) (J Jx : List (Nat × Nat) → World → Prop)
    (W : World) (hJ : AbidesFrom W.heap.size J)
    (CP : ∀ (s : Nat) (w : World), Blk w g 110 fc → Calls Try.prog 63 #[.pointer (some ⟨g, 0, none⟩), .agg kc, .int .i64 (s : Int)] w fun e w' => e = .returned (.tuple #[.agg #[.int .i64 ((L.getD s (0, 0)).1 : Int), .int .i64 ((L.getD s (0, 0)).2 : Int)], .bool (decide (s < len))]) ∧ Below w.heap.size w w')
    (hY : ∀ pre x W, J pre W → pre.length < len → YieldAt Fence.wide (n - 1) Try.prog l #[.agg (pcP x)] W fun e W' =>
      (e = .returned (.bool true) ∧ J (pre ++ [x]) W' ∧ Kept (fun k => k = g ∨ k = Bf ∨ k = Bk) W W') ∨ (e = .returned (.bool false) ∧ Jx (pre ++ [x]) W'))
    (hBf : Boxed W Bf 68 (.pointer (some ⟨g, 0, none⟩))) (hBk : Blk W Bk 42 kc) (hF : Blk W g 110 fc) (h0 : J [] W) :
    CallsIn Fence.wide n Try.prog 62 #[.func (.yield l) #[] #[], .pointer (some ⟨Bf, 0, none⟩), .pointer (some ⟨Bk, 0, none⟩)] W fun e W' => (∃ v, e = .returned v) ∧
      ((∃ ys, ys = L ∧ J ys W') ∨ (∃ pre, (∃ k, k ≤ len ∧ pre = L.take k) ∧ Jx pre W')) := by
  have HL := lh hL
  have HY := lh hY
  have HJ := lh hJ
  have HBF := lh hBf
  have HBK := lh hBk
  have HF := lh hF
  have HP := lh CP
  have HI := lh hi31
  clear hL hY hJ hBf hBk hF CP hi31
  refine callsIn_of_wp Try.func62 rfl trivial ?_ rfl
  simp only [Try.ntmps62, List.size_toArray, List.length_cons, List.length_nil, Nat.reduceAdd, Nat.reduceSub, Array.replicate_succ, Array.replicate_zero, List.push_toArray, List.append_toArray, List.nil_append, List.cons_append]
  gi_wp2
  gi_loopw [4] (fun i wr => ∃ k : Nat, k ≤ len ∧ i = .int .i64 (k : Int) ∧ J (L.take k) wr ∧ Kept (fun k => k = g ∨ k = Bf ∨ k = Bk) W wr)
    (fun i _ => len - (intOf i).toNat)
  case atStart => exact ⟨0, Nat.zero_le _, rfl, h0, Kept.refl _ _⟩
  case round =>
    obtain ⟨k, hk, rfl, hJs, hkp⟩ := hrel
    clear h0
    have bf : Boxed wr Bf 68 (.pointer (some ⟨g, 0, none⟩)) := (hkp.2 Bf (.inr (.inl rfl))).trans HBF.out
    have bk : Blk wr Bk 42 kc := (hkp.2 Bk (.inr (.inr rfl))).trans HBK.out
    have ff : Blk wr g 110 fc := (hkp.2 g (.inl rfl)).trans HF.out
    have hcf := bf.cell
    have L1 := lh (run_blk_load (P := Try.prog) 42 Bk _ bk Try.underlying42 rfl HI.out)
    have CPk := lh (HP.out k wr ff)
    have HKP := lh hkp
    have HJs := lh hJs
    have HSz : Hid (∀ j, (j = g ∨ j = Bf ∨ j = Bk) → j < wr.heap.size) := by
      show ∀ j, (j = g ∨ j = Bf ∨ j = Bk) → j < wr.heap.size
      intro j hj
      rcases hj with rfl | rfl | rfl
      · exact ff.lt
      · exact bf.lt
      · exact bk.lt
    clear hkp hJs bf bk ff
    gi_wp2_with ((with_reducible refine wpListIn_load_want (op := ⟨some 11, .load 42 (.tmp 2), _, _, _, _⟩) ?wg1 42 (.tmp 2) ?wo1 ⟨Bk, 0, none⟩ ?wx1 (.agg kc) L1.out ?_); (case wg1 => rfl); (case wo1 => rfl); (case wx1 => rfl))
    refine ⟨trivial, ?_⟩
    refine (callsIn_wide.2 CPk.out).mono ?_
    rintro e V ⟨rfl, hyB⟩
    by_cases hlt : k < len
    case neg =>
      obtain rfl : len = k := by omega
      rw [decide_eq_false hlt]
      generalize L.getD len (0, 0) = y at *
      have hJV := HJ.out _ _ _ none HJs.out (grown_of_below (hyB.alloc hyB.size (.cells #[.int .i64 (y.1 : Int), .int .i64 (y.2 : Int)] 51))) (fun r e => by cases e)
      have HJV := lh hJV
      clear hJV hlt CPk L1 hcf
      gi_wp2
      refine ⟨fun f hf => (by cases hf), ?_⟩
      gi_wp2
      refine bodyPost_ret (results_none rfl _ _ _) rfl ?_
      exact ⟨⟨_, rfl⟩, .inl ⟨_, rfl, by have := HJV.out; rw [HL.out, List.take_length] at this; exact this⟩⟩
    rw [decide_eq_true hlt]
    have HTK := lh (take_snocP L k (by rw [← HL.out]; exact hlt))
    generalize L.getD k (0, 0) = y at *
    have hal := hyB.alloc hyB.size (.cells #[.int .i64 (y.1 : Int), .int .i64 (y.2 : Int)] 51)
    obtain ⟨fn, tmps, assign, body, hy, hR⟩ := HY.out _ y _ (HJ.out _ _ _ none HJs.out (grown_of_below hal) (fun r e => by cases e)) (by rw [List.length_take, ← HL.out]; omega)
    have HK2 := lh (Kept.below hal HSz.out)
    unfold pcP at hy
    clear hal CPk L1 hcf
    gi_wp2
    refine hR.mono ?_
    rintro e W3 (⟨rfl, hJ3, hk3⟩ | ⟨rfl, hJx3⟩)
    · gi_wp2
      go_roundw
      case rel => exact ⟨k + 1, by omega, by go_num, by rw [HTK.out] at hJ3; exact hJ3, (HKP.out.trans HK2.out).trans hk3⟩
      case measure => simp [intOf]; omega
    · gi_wp2
      refine bodyPost_ret (results_none rfl _ _ _) rfl ?_
      exact ⟨⟨_, rfl⟩, .inr ⟨_, ⟨k + 1, by omega, HTK.out⟩, hJx3⟩⟩
set_option maxRecDepth 100000 in
theorem itp_stops (n : Nat) (hn : 1 ≤ n) (Bf Bk g : Nat) (L : List (Nat × Nat)) (kc fc : Array Value) (hi31 : (Try.prog.info? 42).map (·.size) = some kc.size) (hl4 : L.length ≤ 4) (w : World)
    (CP : ∀ (s : Nat) (w : World), Blk w g 110 fc → Calls Try.prog 63 #[.pointer (some ⟨g, 0, none⟩), .agg kc, .int .i64 (s : Int)] w fun e w' => e = .returned (.tuple #[.agg #[.int .i64 ((L.getD s (0, 0)).1 : Int), .int .i64 ((L.getD s (0, 0)).2 : Int)], .bool (decide (s < L.length))]) ∧ Below w.heap.size w w')
    (hBf : Boxed w Bf 68 (.pointer (some ⟨g, 0, none⟩))) (hBk : Blk w Bk 42 kc) (hF : Blk w g 110 fc) :
    SeqStopsK Fence.wide n Try.prog 62 #[.pointer (some ⟨Bf, 0, none⟩), .pointer (some ⟨Bk, 0, none⟩)] (fun x : Nat × Nat => #[.agg (pcP x)]) (Kept (fun k => k = g ∨ k = Bf ∨ k = Bk)) (fun ys => ys = L) (fun pre => ∃ k, k ≤ L.length ∧ pre = L.take k) L.length w := fun l J Jx W hW hJ _ hY h0 =>
  itp_in n hn l Bf Bk g L.length L rfl kc fc hi31 hl4 J Jx W hJ CP hY ((hW.block Bf hBf.lt).trans hBf) ((hW.block Bk hBk.lt).trans hBk) ((hW.block g hF.lt).trans hF) h0
end Go.Proofs.Ythldpnifodbheaa
namespace Go.Proofs.Ythldpnifodbheaa
open Go.RowKit Go.Lib
abbrev Pl := Nat × Nat
def lkN (st sz : Nat) (c : Nat → Option Se) (p : Pl) : Option Se := lkP st sz c (p.1 : Int) (p.2 : Int)
def fst1 (f : Pl → Option Se) (q : Se → Bool) : List Pl → Option (Pl × Se)
  | [] => none
  | p :: L => match f p with
    | some s => if q s then some (p, s) else fst1 f q L
    | none => fst1 f q L
theorem fst1_append (f : Pl → Option Se) (q : Se → Bool) (A B : List Pl) (h : fst1 f q A = none) : fst1 f q (A ++ B) = fst1 f q B := by
  induction A with
  | nil => rfl
  | cons p A ih =>
    unfold fst1 at h
    rw [List.cons_append]
    conv => lhs; unfold fst1
    cases hp : f p with
    | none => rw [hp] at h; exact ih h
    | some s =>
      rw [hp] at h
      cases hq : q s with
      | true => simp [hq] at h
      | false => simp [hq] at h; simp [hq]; exact ih h
theorem fst1_prefix (f : Pl → Option Se) (q : Se → Bool) (A B : List Pl) (o : Pl × Se) (h : fst1 f q A = some o) : fst1 f q (A ++ B) = some o := by
  induction A with
  | nil => cases h
  | cons p A ih =>
    unfold fst1 at h
    rw [List.cons_append]
    conv => lhs; unfold fst1
    cases hp : f p with
    | none => rw [hp] at h; exact ih h
    | some s =>
      rw [hp] at h
      cases hq : q s with
      | true => simp [hq] at h; simp [hq, h]
      | false => simp [hq] at h; simp [hq]; exact ih h
theorem fst1_take (f : Pl → Option Se) (q : Se → Bool) (L : List Pl) (k : Nat) (o : Pl × Se) (h : fst1 f q (L.take k) = some o) : fst1 f q L = some o := by
  have := fst1_prefix f q (L.take k) (L.drop k) o h
  rwa [List.take_append_drop] at this
theorem fst1_one_none (f : Pl → Option Se) (q : Se → Bool) (A : List Pl) (p : Pl) (h : fst1 f q A = none) (hp : f p = none) : fst1 f q (A ++ [p]) = none := by
  rw [fst1_append f q A _ h]; unfold fst1; rw [hp]; rfl
theorem fst1_one_no (f : Pl → Option Se) (q : Se → Bool) (A : List Pl) (p : Pl) (s : Se) (h : fst1 f q A = none) (hp : f p = some s) (hq : q s = false) : fst1 f q (A ++ [p]) = none := by
  rw [fst1_append f q A _ h]; unfold fst1; rw [hp]; simp [hq]; rfl
theorem fst1_one_yes (f : Pl → Option Se) (q : Se → Bool) (A : List Pl) (p : Pl) (s : Se) (h : fst1 f q A = none) (hp : f p = some s) (hq : q s = true) : fst1 f q (A ++ [p]) = some (p, s) := by
  rw [fst1_append f q A _ h]; unfold fst1; rw [hp]; simp [hq]
def rP : Option (Pl × Se) → Array Value | none => #[.int .i64 0, .int .i64 0] | some o => pcP o.1
def rC : Option (Pl × Se) → Array Value | none => zCe | some o => o.2.ce
end Go.Proofs.Ythldpnifodbheaa
namespace Go.Proofs.Ythldpnifodbheaa
open Go.RowKit
set_option maxRecDepth 100000 in
set_option maxHeartbeats 2000000 in
theorem kcmp_any (a b : Fl) (ha : a.Fit) (hb : b.Fit) (w : World) :
    Calls Try.prog 43 #[.agg a.cs, .agg b.cs] w fun e w' => e = .returned (.int .i64 (cmpN (bK a) (bK b))) ∧ Below w.heap.size w w' := by
  have K := lh (Below.refl w.heap.size w)
  have C1 := lh (fun W => kbytes_any a ha W)
  have C2 := lh (fun W => kbytes_any b hb W)
  have CC := lh (fun W x y (h1 : Rd W x (nus .u8 (bK a))) (h2 : Rd W y (nus .u8 (bK b))) => compare_any x y (bK a) (bK b) W h1 h2)
  have IK := lh (fl_ik a ha)
  have IKb := lh (fl_ik b hb)
  generalize cmpN (bK a) (bK b) = r at *
  generalize bK a = BA at *
  generalize bK b = BB at *
  generalize a.cs = kc at *
  generalize b.cs = kcb at *
  clear ha hb
  go_enter Try.func43, Try.ntmps43
  have hal := (Below.refl w.heap.size w).alloc (Nat.le_refl _) (.cells kc 42)
  replace K := lh (K.out.trans (hal.mono K.out.size))
  have N := lh (Blk.new w 42 kc)
  clear hal
  have hal := (Below.refl (w.alloc (.cells kc 42)).heap.size (w.alloc (.cells kc 42))).alloc (Nat.le_refl _) (.cells kcb 42)
  replace K := lh (K.out.trans (hal.mono K.out.size))
  replace N := lh (N.out.below hal N.out.lt)
  have Nbq := Blk.new (w.alloc (.cells kc 42)) 42 kcb
  simp only [World.size_alloc] at Nbq
  have Nb := lh Nbq
  clear Nbq
  clear hal
  go_wp2_with fail
  have hzV1 : Hid (((w.alloc (.cells kc 42)).alloc (.cells kcb 42)).heap.size = w.heap.size + 1 + 1) := by show _ = _; simp only [World.size_alloc]
  generalize ((w.alloc (.cells kc 42)).alloc (.cells kcb 42)) = V1 at *
  refine wp_region_held (S := (fun w' : World => Below (V1.heap.size) V1 w')) (by kernel_rfl) ?_
  change wpAnyH _ _ _ _ _ _ _ _ V1.drew
  have hy : Below V1.heap.size V1 V1.drew := (Below.refl _ _).drew
  have hE0 : Below (V1.heap.size) V1 V1.drew := (Below.refl _ _).drew
  clear hy
  generalize V1.drew = Y1x0 at hE0  ⊢
  have E0 := lh hE0
  clear hE0
  refine tkA 0 (.agg kc) ?_ E0.out ?_
  · (intro w1 hS; have hW := hS; exact exec_load 42 (.tmp 2) rfl _ rfl _ (run_blk_load (P := Try.prog) 42 (w.heap.size) _ (N.out.below hW N.out.lt) Try.underlying42 rfl IK.out))
  simp only [Act.put, tS1, tS2, tS3]
  refine tkA 2 (.agg kcb) ?_ E0.out ?_
  · (intro w1 hS; have hW := hS; exact exec_load 42 (.tmp 3) rfl _ rfl _ (run_blk_load (P := Try.prog) 42 (w.heap.size + 1) _ (Nb.out.below hW Nb.out.lt) Try.underlying42 rfl IKb.out))
  simp only [Act.put, tS1, tS2, tS3]
  refine tkO 1 (fun KK hK => ?_)
  go_simp
  refine (C1.out Y1x0).mono ?_
  rintro e Y1x1 ⟨x1, rfl, r1, hy⟩
  have E1 := lh (E0.out.trans (hy.mono E0.out.size))
  have C1 := lh E1.out
  have R1 := lh (r1)
  clear r1
  clear hy E0
  refine hK.out _ _ C1.out (fun _ => ?_)
  clear hK KK
  refine wpAnyH_mono (S' := (fun w' : World => Below Y1x1.heap.size Y1x1 w')) (fun w1 h => C1.out.trans (h.mono C1.out.size)) _ _ _ _ ?_
  clear C1
  try simp only [Act.put, tS1, tS2, tS3]
  refine tkO 3 (fun KK hK => ?_)
  go_simp
  refine (C2.out Y1x1).mono ?_
  rintro e Y1x2 ⟨x2, rfl, r2, hy⟩
  replace R1 := lh (R1.out.below hy)
  have E2 := lh (E1.out.trans (hy.mono E1.out.size))
  have C2 := lh hy
  have R2 := lh (r2)
  clear r2
  clear hy E1
  refine hK.out _ _ C2.out (fun _ => ?_)
  clear hK KK
  refine wpAnyH_mono (S' := (fun w' : World => Below Y1x2.heap.size Y1x2 w')) (fun w1 h => C2.out.trans (h.mono C2.out.size)) _ _ _ _ ?_
  clear C2
  try simp only [Act.put, tS1, tS2, tS3]
  refine tkO 4 (fun KK hK => ?_)
  go_simp
  refine (same_below (CC.out Y1x2 _ _ R1.out R2.out)).mono ?_
  rintro e Y1x3 ⟨rfl, hy⟩
  replace R1 := lh (R1.out.below hy)
  replace R2 := lh (R2.out.below hy)
  have E3 := lh (E2.out.trans (hy.mono E2.out.size))
  have C3 := lh hy
  clear hy E2
  refine hK.out _ _ C3.out (fun _ => ?_)
  clear hK KK
  refine wpAnyH_mono (S' := (fun w' : World => Below Y1x3.heap.size Y1x3 w')) (fun w1 h => C3.out.trans (h.mono C3.out.size)) _ _ _ _ ?_
  clear C3
  try simp only [Act.put, tS1, tS2, tS3]
  refine tkA 5 (?_) ?_ (Below.refl _ _) ?_
  rotate_left
  · (intro w1 hS; go_simp; try with_reducible rfl)
  simp only [Act.put, tS1, tS2, tS3]
  refine wpAnyH_done (by kernel_rfl) ?_ _
  have hy := E3.out
  replace K := lh (K.out.trans (hy.mono K.out.size))
  replace N := lh (N.out.below hy N.out.lt)
  replace Nb := lh (Nb.out.below hy Nb.out.lt)
  clear hy E3
  go_wp2
  go_ret
  exact ⟨rfl, K.out⟩
end Go.Proofs.Ythldpnifodbheaa
namespace Go.Proofs.Ythldpnifodbheaa
open Go.RowKit
set_option maxRecDepth 100000 in
theorem u16_wf (n : Nat) (h : n < 65536) : (Lit.int .u16 (n : Int)).wf = true := by
  simp [Lit.wf, IntKind.min, IntKind.max, IntKind.signed, IntKind.bits]
  omega
set_option maxRecDepth 100000 in
theorem key_u16 (d n : Nat) (h : n < 65536) : Try.prog.keyLits (d + 1) 40 [.int .u16 (n : Int)] = some [.int .u16 (n : Int)] := by
  unfold Program.keyLits
  rw [Try.underlying40]
  simp [u16_wf n h]
def litA (v : Bool) (S : List Nat) : List Lit := .bool v :: S.map fun n : Nat => .int .u8 (n : Int)
set_option maxRecDepth 100000 in
theorem litA_inj {v v' : Bool} {S S' : List Nat} (h : litA v S = litA v' S') : v = v' ∧ S = S' := by
  unfold litA at h
  simp only [List.cons.injEq, Lit.bool.injEq] at h
  refine ⟨h.1, ?_⟩
  have q := h.2
  clear h
  induction S generalizing S' with
  | nil => cases S' with
    | nil => rfl
    | cons _ _ => simp at q
  | cons a r ih => cases S' with
    | nil => simp at q
    | cons b s =>
      simp only [List.map_cons, List.cons.injEq, Lit.int.injEq, true_and] at q
      rw [ih q.2]
      congr 1
      omega
set_option maxRecDepth 100000 in
theorem litA_len (v : Bool) (S : List Nat) : (litA v S).length = S.length + 1 := by simp [litA]
set_option maxRecDepth 100000 in
theorem lits_adr (v : Bool) (S : List Nat) (hl : S.length = 16) (hb : ∀ c ∈ S, c < 256) : Try.prog.keyLits 3 26 (cellsA v S).toList = some (litA v S) := by
  obtain ⟨b0, b1, b2, b3, b4, b5, b6, b7, b8, b9, b10, b11, b12, b13, b14, b15, rfl⟩ := list16 S hl
  exact lits24 v b0 b1 b2 b3 b4 b5 b6 b7 b8 b9 b10 b11 b12 b13 b14 b15 hb
set_option maxRecDepth 100000 in
theorem lits29 (p sp dp : Nat) (hp : p < 256) (h1 : sp < 65536) (h2 : dp < 65536) (S D : Array Value) (hS : S.size = 17) (hD : D.size = 17) (lS lD : List Lit) (eS : Try.prog.keyLits 3 26 S.toList = some lS) (eD : Try.prog.keyLits 3 26 D.toList = some lD) :
    Try.prog.keyLits 4 42 (kcells p S D sp dp).toList = some ([.int .u8 (p : Int)] ++ (lS ++ (lD ++ [.int .u16 (sp : Int), .int .u16 (dp : Int)]))) := by
  obtain ⟨x0, x1, x2, x3, x4, x5, x6, x7, x8, x9, x10, x11, x12, x13, x14, x15, x16, rfl⟩ := cells17 S hS
  obtain ⟨y0, y1, y2, y3, y4, y5, y6, y7, y8, y9, y10, y11, y12, y13, y14, y15, y16, rfl⟩ := cells17 D hD
  have eS : Try.prog.keyLits 3 26 [x0, x1, x2, x3, x4, x5, x6, x7, x8, x9, x10, x11, x12, x13, x14, x15, x16] = some lS := eS
  have eD : Try.prog.keyLits 3 26 [y0, y1, y2, y3, y4, y5, y6, y7, y8, y9, y10, y11, y12, y13, y14, y15, y16] = some lD := eD
  show Try.prog.keyLits 4 42 [.int .u8 (p : Int), x0, x1, x2, x3, x4, x5, x6, x7, x8, x9, x10, x11, x12, x13, x14, x15, x16, y0, y1, y2, y3, y4, y5, y6, y7, y8, y9, y10, y11, y12, y13, y14, y15, y16, .int .u16 (sp : Int), .int .u16 (dp : Int)] = _
  unfold Program.keyLits
  rw [Try.underlying42]
  have hc : Try.prog.cellsOf 5 = 1 := by kernel_rfl
  have hc2 : Try.prog.cellsOf 26 = 17 := by kernel_rfl
  have hc3 : Try.prog.cellsOf 40 = 1 := by kernel_rfl
  have hc4 : Try.prog.cellsOf 42 = 37 := by kernel_rfl
  simp [hc, hc2, hc3, hc4, eS, eD, key5 2 p hp, key_u16 2 sp h1, key_u16 2 dp h2]
set_option maxRecDepth 100000 in
theorem formed27 (X : Array Value) (hX : X.size = 37) : (Value.agg X).formed Try.prog 42 = true := by
  have hc3 : Try.prog.cellsOf 42 = 37 := by kernel_rfl
  simp [Value.formed, Try.underlying42, hc3, hX]
set_option maxRecDepth 100000 in
theorem fl_lits (k : Fl) (h : k.Fit) : Try.prog.keyLits 4 42 k.cs.toList = some ([.int .u8 (k.p : Int)] ++ (litA k.sv k.S ++ (litA k.dv k.D ++ [.int .u16 (k.sp : Int), .int .u16 (k.dp : Int)]))) :=
  lits29 _ _ _ h.p h.sp h.dp _ _ (by rw [cellsA_size, h.lS]) (by rw [cellsA_size, h.lD]) _ _ (lits_adr _ _ h.lS h.bS) (lits_adr _ _ h.lD h.bD)
set_option maxRecDepth 100000 in
theorem eq_fl_yes (k : Fl) (h : k.Fit) (w : World) : (Op.equalIn 10000 42 (.agg k.cs) (.agg k.cs)).run Try.prog w = .ok true w := by
  obtain ⟨r, hr, he⟩ := run_equalIn_deep (P := Try.prog) 9996 4 42 (by kernel_rfl) w 4 4 _ _ _ _ (formed27 _ (k.cs_size h)) (formed27 _ (k.cs_size h)) (fl_lits k h) (fl_lits k h)
  have e : r = true := he.2 rfl
  subst e
  exact hr
set_option maxRecDepth 100000 in
theorem eq_fl_no (a b : Fl) (ha : a.Fit) (hb : b.Fit) (hn : a ≠ b) (w : World) : (Op.equalIn 10000 42 (.agg a.cs) (.agg b.cs)).run Try.prog w = .ok false w := by
  obtain ⟨r, hr, he⟩ := run_equalIn_deep (P := Try.prog) 9996 4 42 (by kernel_rfl) w 4 4 _ _ _ _ (formed27 _ (a.cs_size ha)) (formed27 _ (b.cs_size hb)) (fl_lits a ha) (fl_lits b hb)
  cases r with
  | false => exact hr
  | true =>
    exfalso
    have q := he.1 rfl
    simp only [List.singleton_append, List.cons.injEq, Lit.int.injEq, true_and] at q
    obtain ⟨q0, q⟩ := q
    obtain ⟨q1, q⟩ := List.append_inj q (by rw [litA_len, litA_len, ha.lS, hb.lS])
    obtain ⟨q2, q⟩ := List.append_inj q (by rw [litA_len, litA_len, ha.lD, hb.lD])
    simp only [List.cons.injEq, Lit.int.injEq, true_and, and_true] at q
    obtain ⟨e1, e2⟩ := litA_inj q1
    obtain ⟨e3, e4⟩ := litA_inj q2
    apply hn
    obtain ⟨p, sv, S, dv, D, sp, dp⟩ := a
    obtain ⟨p', sv', S', dv', D', sp', dp'⟩ := b
    simp only at *
    obtain rfl : p = p' := by omega
    obtain rfl : sp = sp' := by omega
    obtain rfl : dp = dp' := by omega
    subst e1 e2 e3 e4
    rfl
end Go.Proofs.Ythldpnifodbheaa
namespace Go.Proofs.Ythldpnifodbheaa
open Go.RowKit Go.Lib
set_option maxRecDepth 100000 in
theorem i64_wf (n : Int) (h1 : -9223372036854775808 ≤ n) (h2 : n ≤ 9223372036854775807) : (Lit.int .i64 n).wf = true := by
  simp [Lit.wf, IntKind.min, IntKind.max, IntKind.signed, IntKind.bits]
  omega
set_option maxRecDepth 100000 in
theorem key_i64 (d : Nat) (n : Int) (h : (Lit.int .i64 n).wf = true) : Try.prog.keyLits (d + 1) 3 [.int .i64 n] = some [.int .i64 n] := by
  unfold Program.keyLits
  rw [Try.underlying3]
  simp [h]
set_option maxRecDepth 100000 in
theorem lits41 (a b : Int) (ha : (Lit.int .i64 a).wf = true) (hb : (Lit.int .i64 b).wf = true) : Try.prog.keyLits 2 51 [.int .i64 a, .int .i64 b] = some [.int .i64 a, .int .i64 b] := by
  unfold Program.keyLits
  rw [Try.underlying51]
  have hc : Try.prog.cellsOf 3 = 1 := by kernel_rfl
  have hc2 : Try.prog.cellsOf 51 = 2 := by kernel_rfl
  simp [hc, hc2, key_i64 0 a ha, key_i64 0 b hb]
set_option maxRecDepth 100000 in
theorem formed41 (a b : Value) : (Value.agg #[a, b]).formed Try.prog 51 = true := by
  have hc : Try.prog.cellsOf 51 = 2 := by kernel_rfl
  simp [Value.formed, Try.underlying51, hc]
set_option maxRecDepth 100000 in
theorem eq_pl (a b a' b' : Int) (ha : (Lit.int .i64 a).wf = true) (hb : (Lit.int .i64 b).wf = true) (ha' : (Lit.int .i64 a').wf = true) (hb' : (Lit.int .i64 b').wf = true) (w : World) : (Op.equalIn Op.maxDepth 51 (.agg #[.int .i64 a, .int .i64 b]) (.agg #[.int .i64 a', .int .i64 b'])).run Try.prog w = .ok (decide (a = a' ∧ b = b')) w := by
  obtain ⟨r, hr, he⟩ := run_equalIn_deep (P := Try.prog) 9998 2 51 (by kernel_rfl) w 2 2 _ _ _ _ (formed41 _ _) (formed41 _ _) (lits41 a b ha hb) (lits41 a' b' ha' hb')
  have e : r = decide (a = a' ∧ b = b') := by
    rw [Bool.eq_iff_iff, he, decide_eq_true_iff]
    simp
  rw [← e]
  exact hr
set_option maxRecDepth 100000 in
theorem plN_lt (c : Cf) (k : Fl) (s : Nat) (h : okC c = true) : plN c k s < 4294967296 := by
  have := okC_sz h
  unfold plN
  exact Nat.lt_of_lt_of_le (Nat.mod_lt _ (by omega)) (by omega)
end Go.Proofs.Ythldpnifodbheaa
namespace Go.Proofs.Ythldpnifodbheaa
open Go.RowKit Go.Shelf
attribute [local go_sem] Oper.semAt_some
def pcells (L : List (Nat × Nat)) : List Value := L.flatMap fun x => [.int .i64 (x.1 : Int), .int .i64 (x.2 : Int)]
set_option maxRecDepth 100000 in
theorem pcells_append (A B : List (Nat × Nat)) : pcells (A ++ B) = pcells A ++ pcells B := by unfold pcells; rw [List.flatMap_append]
set_option maxRecDepth 100000 in
theorem pcells_get (L : List (Nat × Nat)) (k : Nat) (h : k < L.length) : (pcells L)[k * 2]? = some (.int .i64 ((L.getD k (0, 0)).1 : Int)) ∧ (pcells L)[k * 2 + 1]? = some (.int .i64 ((L.getD k (0, 0)).2 : Int)) := by
  induction L generalizing k with
  | nil => simp at h
  | cons x L ih =>
    cases k with
    | zero => exact ⟨rfl, rfl⟩
    | succ k =>
      have := ih k (by simpa using h)
      rw [show (k + 1) * 2 = k * 2 + 1 + 1 by omega]
      exact this
set_option maxRecDepth 100000 in
theorem row_shape {w : World} {base : Nat} {e : TypeId} {v : Value} {k n : Nat} {xs : List Value} (h : w.ownsRow base e k v n xs) : ∃ a c, v = .slice a n c := by
  rcases h.2 with ⟨rfl, rfl⟩ | ⟨g, cap, cur, rfl, -⟩
  · exact ⟨_, _, rfl⟩
  · exact ⟨_, _, rfl⟩
set_option maxRecDepth 100000 in
theorem eql_fnP (f : Nat) (x y : Array Value) (w : World) : (binOp .eql 96 (.func (.func f) x y) .nilFunc).run Try.prog w = .ok (.bool false) w := by kernel_rfl
set_option maxRecDepth 100000 in
theorem blk_own (t : TypeId) (cs : Array Value) (bp B : Nat) : OwnFrom B (fun (_ : Unit) W => Blk W bp t cs) := fun _ X Y row hb hg hr =>
  show Y.heap[bp]? = _ from (hg.block bp hb.lt (fun e' => by
    obtain ⟨-, o, ho, hc⟩ := hr bp e'.symm
    rw [show X.heap[bp]? = _ from hb] at ho
    cases ho; cases hc)).trans hb
set_option maxRecDepth 100000 in
theorem cell_two_newP (W : World) (c m : Int) (e : TypeId) : ∀ j u, ([.int .i64 c, .int .i64 m] : List Value)[j]? = some u → (W.alloc (.cells #[.int .i64 c, .int .i64 m] e)).cell? ((⟨W.heap.size, 0, none⟩ : Addr).add j) = some u := by
  intro j u hj
  have hg := World.alloc_heap_new W (.cells #[.int .i64 c, .int .i64 m] e)
  rw [Addr.add_lit]
  match j, hj with
  | 0, hj => cases hj; simp only [World.cell?, hg]; rfl
  | 1, hj => cases hj; simp only [World.cell?, hg]; rfl
set_option maxRecDepth 100000 in
theorem one_twoP (c m : Int) : ∀ u ∈ ([.int .i64 c, .int .i64 m] : List Value), u.oneCell' = true := by
  intro u hu
  simp at hu
  rcases hu with rfl | rfl <;> rfl
set_option maxRecDepth 100000 in
theorem box_appP {W w1 : World} {hi b B : Nat} {t e : TypeId} {v v' : Value} {k m : Nat} {xs ys : List Value} {tmp : Obj}
    (hv : Boxed W B t v) (hte : t ≠ e) (hrow : W.ownsRow hi e 2 v k xs) (hhi : hi ≤ W.heap.size) (hbB : b ≤ B) (hBh : B < hi)
    (hown' : w1.ownsRow hi e 2 v' m ys) (hgrow : (W.alloc tmp).grownBy w1 v.ownBlock) :
    Boxed w1 B t v ∧ Boxed (w1.setCell ⟨B, 0, none⟩ v') B t v' ∧ (w1.setCell ⟨B, 0, none⟩ v').ownsRow hi e 2 v' m ys ∧ KeepsOthers W (w1.setCell ⟨B, 0, none⟩ v') ∧ Kept (fun q => q < hi ∧ q ≠ B) W (w1.setCell ⟨B, 0, none⟩ v') ∧ Below b W (w1.setCell ⟨B, 0, none⟩ v') := by
  have hv1 : Boxed w1 B t v := (hv.alloc tmp).kept hgrow (hv.not_row hte hrow)
  have hb : ∀ j, v.ownBlock = some j → hi ≤ j := fun j ej => (hrow.lt j ej).1
  refine ⟨hv1, hv1.set v', hown'.kept (grownBy_setCell' w1 B v') (.inr (hv1.not_row hte hown').symm), ?_, ⟨?_, fun k h1 => ?_⟩, ?_⟩
  · refine ((KeepsOthers.alloc W tmp).trans (KeepsOthers.of_grownBy hgrow fun j o ej hj => ?_)).trans (KeepsOthers.setCell _ _ _)
    rcases (hrow.alloc tmp).2 with ⟨rfl, _⟩ | ⟨g, cap, cur, rfl, _, hgb, _⟩
    · simp [Value.ownBlock] at ej
    · obtain rfl : g = j := by simpa [Value.ownBlock] using ej
      rw [hgb] at hj; cases hj; rfl
  · have h1 := hgrow.size
    have h2 := (grownBy_setCell' w1 B v').size
    rw [World.size_alloc] at h1
    omega
  · refine ((grownBy_setCell' w1 B v').block k (by have := hgrow.size; rw [World.size_alloc] at this; omega) (fun e => h1.2 (by cases e; rfl))).trans ((hgrow.block k (by rw [World.size_alloc]; omega) (fun e => ?_)).trans (Below.heap_alloc W tmp k (by omega)))
    have := hb k e.symm
    omega
  · exact (((Below.refl b W).alloc (by omega) tmp).grown hgrow (by rw [World.size_alloc]; omega) fun j ej => by have := hb j ej; omega).setCell (p := ⟨B, 0, none⟩) hbB v'
set_option maxRecDepth 100000 in
theorem own_low2 {w : World} {b1 b2 : Nat} {e : TypeId} {k : Nat} {v : Value} {n : Nat} {xs : List Value} (hb : b1 ≤ b2) (h : w.ownsRow b2 e k v n xs) : w.ownsRow b1 e k v n xs := by
  refine ⟨h.1, ?_⟩
  rcases h.2 with h0 | ⟨g, cap, cur, e1, hbg, h3⟩
  · exact .inl h0
  · exact .inr ⟨g, cap, cur, e1, Nat.le_trans hb hbg, h3⟩
end Go.Proofs.Ythldpnifodbheaa
namespace Go.Proofs.Ythldpnifodbheaa
open Go Go.RowKit
theorem Oper.wp_round {l n : Nat} {P : Program} {o : Oper} {a : Act} {w : World} {K : Act → World → Prop} {Q : Exit → Act → World → Prop} (ho : ∀ c, o.op ≠ .defer c) (h : Oper.wp P o a w K Q) : Oper.wpIn (Fence.wide.inRound l) n P o a w K Q := by
  unfold Oper.wp at h
  refine ⟨fun _ _ => trivial, ?_⟩
  rw [Oper.semAt_eq _ _ _ ho]
  generalize (execOp a.eval o).run P w = r at *
  cases r with
  | ok x w' =>
    cases x
    case enter f args => exact ⟨fun hd => (by cases hd), (callsIn_wide.2 h : CallsIn Fence.wide (n - 1) P f args w' _)⟩
    case row row args =>
      refine ⟨fun hd => (by cases hd), fun c cs _ => ?_⟩
      obtain ⟨v, w', r, s⟩ := h c cs
      exact ⟨v, w', r, stepsIn_wide.2 s⟩
    all_goals first | exact h | exact absurd h id
  | halt x w' => cases x <;> exact h
theorem wpAny_round {l n : Nat} {P : Program} {md : Region.Mode} {ops : Array Oper} {Q : Exit → Act → World → Prop} (hdf : ∀ (j : Nat) (o : Oper), ops[j]? = some o → ∀ c, o.op ≠ .defer c) (hlo : ¬ LetsOut Q) :
    ∀ (fuel : Nat) (listed : Array Bool) (a : Act) (w : World), wpAny P md ops Q fuel listed a w → wpAnyIn (Fence.wide.inRound l) n P md ops Q fuel listed a w
  | 0, _, _, _, h => h
  | fuel + 1, listed, a, w, h => ⟨h.1, fun i hi => by
      have h2 := h.2 i hi
      unfold wpOp at h2
      unfold wpOpIn
      cases ho : ops[i]? with
      | none => rw [ho] at h2; exact wpAny_round hdf hlo fuel _ _ _ h2
      | some o =>
        rw [ho] at h2
        simp only at h2 ⊢
        split
        · rename_i hw
          rw [if_pos hw] at h2
          rcases h2 with h2 | ⟨_, h2⟩
          · exact Oper.wpIn_mono (fun a w => wpAny_round hdf hlo fuel _ a w) (Oper.wp_round (hdf i o ho) h2)
          · exact absurd h2 hlo
        · rename_i hw
          rw [if_neg hw] at h2
          exact ⟨fun _ _ => trivial, wpAny_round hdf hlo fuel _ _ _ h2⟩⟩
def noDefer (ops : Array Oper) : Bool := ops.all fun o => match o.op with | .defer _ => false | _ => true
theorem noDefer_spec {ops : Array Oper} (h : noDefer ops = true) (j : Nat) (o : Oper) (hj : ops[j]? = some o) : ∀ c, o.op ≠ .defer c := by
  intro c e
  unfold noDefer at h
  rw [Array.all_eq_true] at h
  obtain ⟨hl, ho⟩ := Array.getElem?_eq_some_iff.1 hj
  have := h j hl
  rw [ho, e] at this
  cases this
theorem wpIn_region_held_round {l n : Nat} {P : Program} {id : Nat} {ops : Array Oper} {Q : Exit → Act → World → Prop} {S : World → Prop} {a : Act} {w : World} (hm : P.follows .mixedOrders = true) (hdf : noDefer ops = true) (hlo : ¬ LetsOut Q)
    (h : wpAnyH P .any ops Q S ops.size (Array.replicate ops.size false) a w.drew) : (Code.region id ops true).wpIn (Fence.wide.inRound l) n P Q a w :=
  wpIn_region_any hm (wpAny_round (noDefer_spec hdf) hlo _ _ _ _ (wpAny_of_held _ _ _ _ h))
def noP (Q : Exit → Act → World → Prop) : Exit → Act → World → Prop
  | .panic _, _, _ => False
  | e, a, w => Q e a w
theorem wp_noP {P : Program} {c : Code} {Q : Exit → Act → World → Prop} {a : Act} {w : World} (h : c.wp P (noP Q) a w) : c.wp P Q a w :=
  Code.wp_mono (fun e a w h => by cases e <;> first | exact h | exact h.elim) h
theorem name_act {F : Fence} {n : Nat} {P : Program} {c : Code} {Q : Exit → Act → World → Prop} {a : Act} {w : World} (h : ∀ b, b = a → c.wpIn F n P Q b w) : c.wpIn F n P Q a w := h a rfl
def Dfr (w : World) (D : Nat) : Prop := w.heap[D]? = some (.deferred (some []))
theorem Dfr.lt {w : World} {D : Nat} (h : Dfr w D) : D < w.heap.size := (Array.getElem?_eq_some_iff.1 h).1
theorem Dfr.below {B : Nat} {w w' : World} {D : Nat} (h : Dfr w D) (hb : Below B w w') (hD : D < B) : Dfr w' D := (hb.block D hD).trans h
theorem results_cell3 {P : Program} {fn : Func} {tmps : Array Value} {w : World} (p q r : Nat) (t u v : TypeId) (b c d : Nat) (x y z : Value) (hres : fn.results = #[.cell p t, .cell q u, .cell r v])
    (hp : tmps.getD p undef = .pointer (some ⟨b, 0, none⟩)) (hq : tmps.getD q undef = .pointer (some ⟨c, 0, none⟩)) (hr : tmps.getD r undef = .pointer (some ⟨d, 0, none⟩))
    (hx : (loadVar t ⟨b, 0, none⟩).run P w = .ok x w) (hy : (loadVar u ⟨c, 0, none⟩).run P w = .ok y w) (hz : (loadVar v ⟨d, 0, none⟩).run P w = .ok z w) : (results fn tmps).run P w = .ok (.tuple #[x, y, z]) w := by
  unfold results
  rw [hres]
  have hp' : tmps[p]?.getD undef = .pointer (some ⟨b, 0, none⟩) := by rw [← hp, Array.getD_eq_getD_getElem?]
  have hq' : tmps[q]?.getD undef = .pointer (some ⟨c, 0, none⟩) := by rw [← hq, Array.getD_eq_getD_getElem?]
  have hr' : tmps[r]?.getD undef = .pointer (some ⟨d, 0, none⟩) := by rw [← hr, Array.getD_eq_getD_getElem?]
  simp [asAddr, hp', hq', hr', hx, hy, hz, Array.mapM_eq_foldlM]
theorem results_cell2_tmp {P : Program} {fn : Func} {tmps : Array Value} {w : World} (p q r : Nat) (t u : TypeId) (b c : Nat) (x y : Value) (hres : fn.results = #[.cell p t, .cell q u, .tmp r])
    (hp : tmps.getD p undef = .pointer (some ⟨b, 0, none⟩)) (hq : tmps.getD q undef = .pointer (some ⟨c, 0, none⟩))
    (hx : (loadVar t ⟨b, 0, none⟩).run P w = .ok x w) (hy : (loadVar u ⟨c, 0, none⟩).run P w = .ok y w) : (results fn tmps).run P w = .ok (.tuple #[x, y, tmps.getD r undef]) w := by
  unfold results
  rw [hres]
  have hp' : tmps[p]?.getD undef = .pointer (some ⟨b, 0, none⟩) := by rw [← hp, Array.getD_eq_getD_getElem?]
  have hq' : tmps[q]?.getD undef = .pointer (some ⟨c, 0, none⟩) := by rw [← hq, Array.getD_eq_getD_getElem?]
  simp [asAddr, hp', hq', hx, hy, Array.mapM_eq_foldlM]
theorem tkB {P : Program} {ops : Array Oper} {Q : Exit → Act → World → Prop} {md : Region.Mode} {S : World → Prop} {fuel : Nat} {listed : Array Bool} {a : Act} {w : World} (n m : Nat) {o o' : Oper}
    (h : ∀ K' : Act → World → Prop, Shut (∀ a w, S w → (S w → wpAnyH P md ops Q S fuel (listed.setIfInBounds n true) a w) → K' a w) → if Region.wanted o (yielded ops a.tmps) = true then Oper.wp P o a w K' Q else K' (a.put o.dst undef) w)
    (h' : ∀ K' : Act → World → Prop, Shut (∀ a w, S w → (S w → wpAnyH P md ops Q S fuel (listed.setIfInBounds m true) a w) → K' a w) → if Region.wanted o' (yielded ops a.tmps) = true then Oper.wp P o' a w K' Q else K' (a.put o'.dst undef) w)
    (hi : ops[n]? = some o := by (simp only [List.getElem?_toArray, List.getElem?_cons_succ, List.getElem?_cons_zero]; exact rfl)) (hi' : ops[m]? = some o' := by (simp only [List.getElem?_toArray, List.getElem?_cons_succ, List.getElem?_cons_zero]; exact rfl)) (hr : Region.ready md ops listed = [n, m] := by kernel_rfl) : wpAnyH P md ops Q S (fuel + 1) listed a w :=
  wpAnyH_ready hr (by simp) (AllReadyH.cons hi h (AllReadyH.cons hi' h' AllReadyH.nil))
theorem tkB3 {P : Program} {ops : Array Oper} {Q : Exit → Act → World → Prop} {md : Region.Mode} {S : World → Prop} {fuel : Nat} {listed : Array Bool} {a : Act} {w : World} (n m r : Nat) {o o' o'' : Oper}
    (h : ∀ K' : Act → World → Prop, Shut (∀ a w, S w → (S w → wpAnyH P md ops Q S fuel (listed.setIfInBounds n true) a w) → K' a w) → if Region.wanted o (yielded ops a.tmps) = true then Oper.wp P o a w K' Q else K' (a.put o.dst undef) w)
    (h' : ∀ K' : Act → World → Prop, Shut (∀ a w, S w → (S w → wpAnyH P md ops Q S fuel (listed.setIfInBounds m true) a w) → K' a w) → if Region.wanted o' (yielded ops a.tmps) = true then Oper.wp P o' a w K' Q else K' (a.put o'.dst undef) w)
    (h'' : ∀ K' : Act → World → Prop, Shut (∀ a w, S w → (S w → wpAnyH P md ops Q S fuel (listed.setIfInBounds r true) a w) → K' a w) → if Region.wanted o'' (yielded ops a.tmps) = true then Oper.wp P o'' a w K' Q else K' (a.put o''.dst undef) w)
    (hi : ops[n]? = some o := by (simp only [List.getElem?_toArray, List.getElem?_cons_succ, List.getElem?_cons_zero]; exact rfl)) (hi' : ops[m]? = some o' := by (simp only [List.getElem?_toArray, List.getElem?_cons_succ, List.getElem?_cons_zero]; exact rfl)) (hi'' : ops[r]? = some o'' := by (simp only [List.getElem?_toArray, List.getElem?_cons_succ, List.getElem?_cons_zero]; exact rfl)) (hr : Region.ready md ops listed = [n, m, r] := by kernel_rfl) : wpAnyH P md ops Q S (fuel + 1) listed a w :=
  wpAnyH_ready hr (by simp) (AllReadyH.cons hi h (AllReadyH.cons hi' h' (AllReadyH.cons hi'' h'' AllReadyH.nil)))
theorem keepsF_below {b : Nat} {A B : World} (h : Below A.heap.size A B) : KeepsFrom b A B := ⟨h.size, fun k _ _ hk _ => (h.block k (Array.getElem?_eq_some_iff.1 hk).1).trans hk⟩
theorem keepsF_store {b g : Nat} {A B : World} {t : TypeId} {cs : Array Value} (h : Blk A g t cs) (hF : ∀ k, k ≠ g → B.heap[k]? = A.heap[k]?) (hs : A.heap.size ≤ B.heap.size) : KeepsFrom b A B :=
  ⟨hs, fun k _ _ hk ho => (hF k (fun e => by
    subst e
    rw [show A.heap[k]? = _ from h] at hk
    cases hk
    simp [Obj.isCells] at ho)).trans hk⟩
end Go.Proofs.Ythldpnifodbheaa
