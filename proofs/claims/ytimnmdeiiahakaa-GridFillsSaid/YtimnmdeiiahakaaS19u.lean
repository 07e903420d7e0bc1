/- GridFills' walk. -/
import Derived.Test.YtimnmdeiiahakaaS19u0
import Derived.Test.YtimnmdeiiahakaaS19u1
import Derived.Laws.CopyOwn
import Derived.BigQuiet
import Derived.Deep.QuietTactic
import Derived.Shelf.Abstract
import Derived.Shelf.RegionOpen
import Derived.LoopIn
import Derived.BigFrame
import Derived.RangeFuncBound
import Derived.RangeFuncBox
import Derived.RangeFuncCalls
import Derived.RangeFuncLeaves
import Derived.RangeFuncNested
import Derived.RangeFuncRecord
import Derived.Deep.CutBlock
import Derived.Deep.DeepCutAuto
import Derived.LoopTactic
import Derived.Handy
namespace Go.Proofs.Ytimnmdeiiahakaa
open Go.RowKit Go.Shelf
attribute [local go_sem] Oper.semAt_some

/-- The block of a range's mark. -/
def Dfr (w : World) (D : Nat) : Prop := w.heap[D]? = some (.deferred (some []))
theorem Dfr.lt {w : World} {D : Nat} (h : Dfr w D) : D < w.heap.size := (Array.getElem?_eq_some_iff.1 h).1
theorem Dfr.below {B : Nat} {w w' : World} {D : Nat} (h : Dfr w D) (hb : Below B w w') (hD : D < B) : Dfr w' D := (hb.block D hD).trans h
theorem Apart.dfr {B n : Nat} {w w' : World} (h : Apart B n w w') {D : Nat} (hd : Dfr w D) (hg : D < B ∨ B + n ≤ D) : Dfr w' D := (h.block D hd.lt hg).trans hd
def GotF (B st sz gN b hi : Nat) (w0 : World) (l : List Nat) (W : World) : Prop :=
  Blk W gN 3 #[.int .i64 (l.length : Int)] ∧ Blk W b 3 #[.int .i64 (sz : Int)] ∧ Blk W (b + 1) 4 #[.bool false] ∧ GdA B st sz (full2 sz) W ∧ Below b w0 W ∧ hi ≤ W.heap.size
theorem blk_own (t : TypeId) (cs : Array Value) (bp B : Nat) : OwnFrom B (fun (_ : Unit) W => Blk W bp t cs) := fun _ X Y row hb hg hr =>
  show Y.heap[bp]? = _ from (hg.block bp hb.lt (fun e' => by
    obtain ⟨-, o, ho, hc⟩ := hr bp e'.symm
    rw [show X.heap[bp]? = _ from hb] at ho
    cases ho
    simp [Obj.isCells] at hc)).trans hb
theorem GotF.own (B st sz gN b hi X : Nat) (w0 : World) (h : b ≤ w0.heap.size) (hX : b ≤ X) : OwnFrom X (GotF B st sz gN b hi w0) := fun l P Q row hs hg hr => by
  obtain ⟨h1, h2, h3, h4, h5, h6⟩ := hs
  exact ⟨blk_own _ _ _ X () P Q row h1 hg hr, blk_own _ _ _ X () P Q row h2 hg hr, blk_own _ _ _ X () P Q row h3 hg hr,
    ⟨blk_own _ _ _ X () P Q row h4.G hg hr, blk_own _ _ _ X () P Q row h4.R hg hr, fun s hs => blk_own _ _ _ X () P Q row (h4.C s hs) hg hr, h4.s1, h4.s2, h4.z1, h4.z2⟩,
    ownFrom_below h hX () P Q row h5 hg hr, Nat.le_trans h6 hg.size⟩
theorem built30 (a b : Int) : Try.prog.built 30 [(0, .int .i64 a), (1, .int .i64 b)] = some #[.int .i64 a, .int .i64 b] := by kernel_rfl
/-- A piece of code that does not panic. -/
def noP (Q : Exit → Act → World → Prop) : Exit → Act → World → Prop
  | .panic _, _, _ => False
  | e, a, w => Q e a w
theorem wp_noP {P : Program} {c : Code} {Q : Exit → Act → World → Prop} {a : Act} {w : World} (h : c.wp P (noP Q) a w) : c.wp P Q a w :=
  Code.wp_mono (fun e a w h => by cases e <;> first | exact h | exact h.elim) h
theorem name_act {F : Fence} {n : Nat} {P : Program} {c : Code} {Q : Exit → Act → World → Prop} {a : Act} {w : World} (h : ∀ b, b = a → c.wpIn F n P Q b w) : c.wpIn F n P Q a w := h a rfl
theorem eql_fnA (x y : Array Value) (w : World) : (binOp .eql 49 (.func (.func 32) x y) .nilFunc).run Try.prog w = .ok (.bool false) w := by kernel_rfl
theorem eq43 (p : Addr) (W : World) : (binOp .eql 43 (.pointer (some p)) (.pointer none)).run Try.prog W = .ok (.bool false) W := by kernel_rfl
set_option maxRecDepth 100000 in
set_option maxHeartbeats 4000000 in
theorem fills_walk (st0 sz0 odd : Int) (w : World) :
    Calls Try.prog 4 #[.int .i64 st0, .int .i64 sz0, .int .i64 odd] w fun e w' => e = .returned (.bool true) ∧ Below w.heap.size w w' := by
  have AW := Lib.hid awake_any
  refine (callsIn_wide (n := 3)).1 ?_
  refine callsIn_of_wp_marks Try.func4 rfl trivial ?_ rfl
  refine wpIn_wide.2 ?_
  simp only [Try.ntmps4, List.size_toArray, List.length_cons, List.length_nil, Nat.reduceAdd, Nat.reduceSub, Array.replicate_succ, Array.replicate_zero, List.push_toArray, List.append_toArray, List.nil_append, List.cons_append]
  have hb2 := ((Below.refl w.heap.size w).alloc (Nat.le_refl _) (.cells #[.int .i64 sz0] 3)).alloc (by simp) (.cells #[.bool false] 4)
  have z1 := (Blk.new w 3 #[.int .i64 sz0]).alloc (.cells #[.bool false] 4)
  have z2 := Blk.new (w.alloc (.cells #[.int .i64 sz0] 3)) 4 #[.bool false]
  simp only [World.size_alloc] at z2
  obtain ⟨V, hV⟩ : ∃ V, V = (w.alloc (.cells #[.int .i64 sz0] 3)).alloc (.cells #[.bool false] 4) := ⟨_, rfl⟩
  rw [← hV] at hb2 z1 z2
  have hVs : V.heap.size = w.heap.size + 2 := by rw [hV]; simp
  have K := Lib.hid hb2
  have Z := Lib.hid z1
  have RB := Lib.hid z2
  clear hb2 z1 z2
  go_upto_region 1 with fail
  rw [← hV]
  clear hV
  have cz : V.cell? ⟨w.heap.size, 0, none⟩ = some (.int .i64 sz0) := Z.out.cell 0
  by_cases h0 : st0 < 1
  · have e0a : decide (st0 < 1) = true := decide_eq_true (by omega)
    clear h0
    go_wp2_with fail
    refine (AW.out V).mono ?_
    rintro e V1 ⟨rfl, hy⟩
    replace K := Lib.hid (K.out.trans (hy.mono K.out.size))
    replace Z := Lib.hid (Z.out.below hy Z.out.lt)
    replace RB := Lib.hid (RB.out.below hy RB.out.lt)
    clear hy
    have k1 : V1.cell? ⟨w.heap.size + 1, 0, none⟩ = some (.bool false) := RB.out.cell 0
    have k2 := RB.out.frozen 0
    have R2 := Lib.hid (RB.out.set_ 0 (.bool true))
    have K2 := Lib.hid (K.out.setCell (p := ⟨w.heap.size + 1, 0, none⟩) (by show w.heap.size ≤ w.heap.size + 1; omega) (.bool true))
    go_wp2
    exact leave4 rfl R2.out ⟨rfl, K2.out⟩
  by_cases h1 : st0 > 4
  · have e0a : decide (st0 < 1) = false := decide_eq_false (by omega)
    have e1a : decide (st0 > 4) = true := decide_eq_true (by omega)
    have e1b : decide (4 < st0) = true := decide_eq_true (by omega)
    clear h0 h1
    go_wp2_with fail
    refine (AW.out V).mono ?_
    rintro e V1 ⟨rfl, hy⟩
    replace K := Lib.hid (K.out.trans (hy.mono K.out.size))
    replace Z := Lib.hid (Z.out.below hy Z.out.lt)
    replace RB := Lib.hid (RB.out.below hy RB.out.lt)
    clear hy
    have k1 : V1.cell? ⟨w.heap.size + 1, 0, none⟩ = some (.bool false) := RB.out.cell 0
    have k2 := RB.out.frozen 0
    have R2 := Lib.hid (RB.out.set_ 0 (.bool true))
    have K2 := Lib.hid (K.out.setCell (p := ⟨w.heap.size + 1, 0, none⟩) (by show w.heap.size ≤ w.heap.size + 1; omega) (.bool true))
    go_wp2
    exact leave4 rfl R2.out ⟨rfl, K2.out⟩
  by_cases h2 : sz0 < 1
  · have e0a : decide (st0 < 1) = false := decide_eq_false (by omega)
    have e1a : decide (st0 > 4) = false := decide_eq_false (by omega)
    have e1b : decide (4 < st0) = false := decide_eq_false (by omega)
    have e2a : decide (sz0 < 1) = true := decide_eq_true (by omega)
    clear h0 h1 h2
    go_wp2_with fail
    refine (AW.out V).mono ?_
    rintro e V1 ⟨rfl, hy⟩
    replace K := Lib.hid (K.out.trans (hy.mono K.out.size))
    replace Z := Lib.hid (Z.out.below hy Z.out.lt)
    replace RB := Lib.hid (RB.out.below hy RB.out.lt)
    clear hy
    have k1 : V1.cell? ⟨w.heap.size + 1, 0, none⟩ = some (.bool false) := RB.out.cell 0
    have k2 := RB.out.frozen 0
    have R2 := Lib.hid (RB.out.set_ 0 (.bool true))
    have K2 := Lib.hid (K.out.setCell (p := ⟨w.heap.size + 1, 0, none⟩) (by show w.heap.size ≤ w.heap.size + 1; omega) (.bool true))
    go_wp2
    exact leave4 rfl R2.out ⟨rfl, K2.out⟩
  by_cases h3 : sz0 > 64
  · have e0a : decide (st0 < 1) = false := decide_eq_false (by omega)
    have e1a : decide (st0 > 4) = false := decide_eq_false (by omega)
    have e1b : decide (4 < st0) = false := decide_eq_false (by omega)
    have e2a : decide (sz0 < 1) = false := decide_eq_false (by omega)
    have e3a : decide (sz0 > 64) = true := decide_eq_true (by omega)
    have e3b : decide (64 < sz0) = true := decide_eq_true (by omega)
    clear h0 h1 h2 h3
    go_wp2_with fail
    refine (AW.out V).mono ?_
    rintro e V1 ⟨rfl, hy⟩
    replace K := Lib.hid (K.out.trans (hy.mono K.out.size))
    replace Z := Lib.hid (Z.out.below hy Z.out.lt)
    replace RB := Lib.hid (RB.out.below hy RB.out.lt)
    clear hy
    have k1 : V1.cell? ⟨w.heap.size + 1, 0, none⟩ = some (.bool false) := RB.out.cell 0
    have k2 := RB.out.frozen 0
    have R2 := Lib.hid (RB.out.set_ 0 (.bool true))
    have K2 := Lib.hid (K.out.setCell (p := ⟨w.heap.size + 1, 0, none⟩) (by show w.heap.size ≤ w.heap.size + 1; omega) (.bool true))
    go_wp2
    exact leave4 rfl R2.out ⟨rfl, K2.out⟩
  have e0a : decide (st0 < 1) = false := decide_eq_false (by omega)
  have e1a : decide (st0 > 4) = false := decide_eq_false (by omega)
  have e1b : decide (4 < st0) = false := decide_eq_false (by omega)
  have e2a : decide (sz0 < 1) = false := decide_eq_false (by omega)
  have e3a : decide (sz0 > 64) = false := decide_eq_false (by omega)
  have e3b : decide (64 < sz0) = false := decide_eq_false (by omega)
  obtain ⟨st, rfl⟩ : ∃ s : Nat, st0 = (s : Int) := ⟨st0.toNat, by omega⟩
  obtain ⟨sz, rfl⟩ : ∃ s : Nat, sz0 = (s : Int) := ⟨sz0.toNat, by omega⟩
  have g0 : decide (st < 1) = false := decide_eq_false (by omega)
  have g1 : decide (st > 4) = false := decide_eq_false (by omega)
  have g2 : decide (sz < 1) = false := decide_eq_false (by omega)
  have g3 : decide (sz > 64) = false := decide_eq_false (by omega)
  have g4 : decide (4 < st) = false := decide_eq_false (by omega)
  have g5 : decide (64 < sz) = false := decide_eq_false (by omega)
  have hst : 1 ≤ st ∧ st ≤ 4 := by omega
  have hsz : 1 ≤ sz ∧ sz ≤ 64 := by omega
  have w1 : IntKind.i64.wrap ((sz : Int) - 1) = (sz : Int) - 1 := by rw [IntKind.wrap_i64]; omega
  have CN := Lib.hid (fun W => newA_yes st sz (by omega) (by omega) (by omega) (by omega) W)
  rw [← cM_top sz (by omega)] at CN
  have CS := Lib.hid (fun B s i (hs : s < st) (hi : i < sz) W h => setA_in B st sz (cI sz i s) s i hs hi ((s : Int), (i : Int)) W h)
  have hq := eq43
  clear h0 h1 h2 h3
  go_wp2_with fail
  clear cz
  obtain ⟨B, hB⟩ : ∃ B, B = V.heap.size := ⟨_, rfl⟩
  have hB1 := RB.out.lt
  refine (CN.out V).mono ?_
  rintro e V1 ⟨rfl, hg, hy⟩
  replace K := Lib.hid (K.out.trans (hy.mono K.out.size))
  replace Z := Lib.hid (Z.out.below hy Z.out.lt)
  replace RB := Lib.hid (RB.out.below hy RB.out.lt)
  have HG := Lib.hid (hg)
  rw [← hB] at HG ⊢
  clear hg
  clear hy
  have hB2 : w.heap.size + 1 < B := by omega
  clear hB hB1 CN
  have cz : V1.cell? ⟨w.heap.size, 0, none⟩ = some (.int .i64 (sz : Int)) := Z.out.cell 0
  go_wp2
  go_loopw [9] (fun i wr => ∃ m : Nat, m ≤ sz ∧ i = .int .i64 ((m : Int) - 1) ∧ Hid (GdA B st sz (cM sz m) wr) ∧ Hid (Blk wr w.heap.size 3 #[.int .i64 (sz : Int)]) ∧ Hid (Blk wr (w.heap.size + 1) 4 #[.bool false]) ∧ Hid (Below w.heap.size w wr)) (fun i _ => (RowKit.intOf i + 1).toNat)
  case atStart => exact ⟨sz, Nat.le_refl _, rfl, HG, Z, RB, K⟩
  case round =>
    obtain ⟨m, hm, rfl, HGr, Zr, RBr, Kr⟩ := hrel
    clear HG Z RB K cz
    by_cases hm0 : 0 < m
    · obtain ⟨i, rfl⟩ : ∃ i, m = i + 1 := ⟨m - 1, by omega⟩
      have e1 : ((i + 1 : Nat) : Int) - 1 = (i : Int) := by omega
      rw [e1]
      have d1 : decide ((i : Int) ≥ 0) = true := decide_eq_true (by omega)
      have d2 : decide (0 ≤ (i : Int)) = true := decide_eq_true (by omega)
      have w6 : IntKind.i64.wrap ((i : Int) - 1) = (i : Int) - 1 := by rw [IntKind.wrap_i64]; omega
      clear e1
      rw [← cI_zero] at HGr
      go_wp2
      go_loopw [10] (fun s wr => ∃ q : Nat, q ≤ st ∧ s = .int .i64 (q : Int) ∧ Hid (GdA B st sz (cI sz i q) wr) ∧ Hid (Blk wr w.heap.size 3 #[.int .i64 (sz : Int)]) ∧ Hid (Blk wr (w.heap.size + 1) 4 #[.bool false]) ∧ Hid (Below w.heap.size w wr)) (fun i _ => st - (RowKit.intOf i).toNat)
      case atStart => exact ⟨0, Nat.zero_le _, rfl, HGr, Zr, RBr, Kr⟩
      case round =>
        obtain ⟨q, hq2, rfl, HGq, Zq, RBq, Kq⟩ := hrel
        clear HGr Zr RBr Kr
        by_cases hl2 : q < st
        · have d10 : decide ((q : Int) < (st : Int)) = true := decide_eq_true (by omega)
          have d11 : decide (q < st) = true := decide_eq_true (by omega)
          have w7 : IntKind.i64.wrap ((q : Int) + 1) = ((q + 1 : Nat) : Int) := by rw [IntKind.wrap_i64]; omega
          have CSq := Lib.hid (CS.out B q i hl2 (by omega) wr HGq.out)
          rw [cI_next sz i q (by omega)] at CSq
          unfold plA at CSq
          go_wp2_with fail
          refine CSq.out.mono ?_
          rintro e V5 ⟨rfl, hg, ha⟩
          have HG5 := Lib.hid hg
          have Z5 := Lib.hid (ha.blk Zq.out (by omega))
          have RB5 := Lib.hid (ha.blk RBq.out (by omega))
          have K5 := Lib.hid (Kq.out.trans (ha.below (by omega) Kq.out.size))
          clear hg ha HGq Zq RBq Kq CSq
          go_wp2
          go_roundw
          case rel => exact ⟨q + 1, hl2, by go_num, HG5, Z5, RB5, K5⟩
          case measure => simp [RowKit.intOf]; omega
        · obtain rfl : q = st := by omega
          have d10 : decide (((q : Nat) : Int) < (q : Int)) = false := decide_eq_false (by omega)
          have d11 : decide (q < q) = false := decide_eq_false (by omega)
          have HG6 := Lib.hid (HGq.out.congr (d := cM sz i) fun k hk => cI_all sz q i k hk)
          go_wp2
          go_roundw
          case rel => exact ⟨i, by omega, by go_num, HG6, Zq, RBq, Kq⟩
          case measure => simp [RowKit.intOf]
    · obtain rfl : m = 0 := by omega
      have e1 : ((0 : Nat) : Int) - 1 = -1 := rfl
      rw [e1]
      have d1 : decide ((-1 : Int) ≥ 0) = false := rfl
      rw [cM_bot] at HGr
      clear hm hm0 e1
      go_upto_region 14 with fail
      obtain ⟨gN, hgN⟩ : ∃ g, g = wr.heap.size := ⟨_, rfl⟩
      have hl := HGr.out.lt
      have hN1 : B + 2 + st ≤ gN := by omega
      have pb := Blk.new wr 3 #[.int .i64 0]
      have hal := (Below.refl wr.heap.size wr).alloc (Nat.le_refl _) (.cells #[.int .i64 0] 3)
      rw [← hgN] at pb
      have NB := Lib.hid pb
      have K := Lib.hid (Kr.out.trans (hal.mono Kr.out.size))
      have Z := Lib.hid (Zr.out.below hal Zr.out.lt)
      have RB := Lib.hid (RBr.out.below hal RBr.out.lt)
      have HG := Lib.hid (HGr.out.below hal)
      go_upto_region 15 with fail
      rw [← hgN]
      clear pb hal hgN hl Kr Zr RBr HGr
      generalize wr.alloc (.cells #[.int .i64 0] 3) = Va at *
      go_wp2_with fail
      refine (allA_fn (some ⟨B + 1, 0, none⟩) Va).mono ?_
      rintro e W0 ⟨rfl, h1, h5⟩
      obtain ⟨gI, hgI⟩ : ∃ g, g = Va.heap.size := ⟨_, rfl⟩
      rw [← hgI] at h1 ⊢
      have hI1 : gN < gI := by rw [hgI]; exact NB.out.lt
      have hq2 := eql_fnA
      replace NB := Lib.hid (NB.out.below h5 NB.out.lt)
      replace K := Lib.hid (K.out.trans (h5.mono K.out.size))
      replace Z := Lib.hid (Z.out.below h5 Z.out.lt)
      replace RB := Lib.hid (RB.out.below h5 RB.out.lt)
      replace HG := Lib.hid (HG.out.below h5)
      have hbs := h1.lt
      have BX := Lib.hid h1
      clear h1 h5 hgI
      go_wp2_with fail
      refine (wpIn_wide (n := 3)).1 ?_
      gi_wp2_with fail
      have HST := Lib.hid (itF_stops 2 (by omega) gI B st sz W0 BX.out HG.out)
      have hNN : st * sz ≤ 256 := Nat.mul_le_mul hst.2 hsz.2
      have hN0 : 0 < st * sz := Nat.mul_pos hst.1 hsz.1
      obtain ⟨NN, hNNe⟩ : ∃ n, n = st * sz := ⟨_, rfl⟩
      rw [← hNNe] at HST hNN hN0
      have K0 := Lib.hid K.out
      refine name_act fun act hact => ?_
      refine wpIn_rangeFunc_ownH (a := act) rfl (by omega) (gf := 32) (lb := #[.pointer (some ⟨gI, 0, none⟩)]) (by rw [hact]; rfl) trivial (enters_of Try.func32 (by kernel_rfl) rfl)
        HST.out (fun h k => Kept.trans h k) (kept_b (fun k hk => by rcases hk with rfl | ⟨q1, q2⟩ <;> omega)) (Below.refl _ _) (fun _ => rfl)
        (GotF B st sz gN w.heap.size W0.heap.size w)
        (fun c l W' => c = .ret ∧ ∃ (pre : List Nat) (x : Nat), l = pre ++ [x] ∧ x % NN ≠ pre.length)
        (GotF.own _ _ _ _ _ _ _ _ (Nat.le_refl _) K.out.size)
        (fun c s A B row hs hg hr => hs)
        ⟨NB.out, Z.out, RB.out, HG.out, K.out, Nat.le_refl _⟩
        (fun x a' W' => ∃ bp bv, W0.heap.size ≤ bp ∧ W0.heap.size ≤ bv ∧ Blk W' bp 30 (plA ((x % NN / sz : Nat) : Int) ((x % NN % sz : Nat) : Int)) ∧ Blk W' bv 46 #[.int .i64 ((x % NN / sz : Nat) : Int), .int .i64 ((x % NN % sz : Nat) : Int)] ∧
          a' = { tmps := (((act.tmps.setIfInBounds 71 (.agg (plA ((x % NN / sz : Nat) : Int) ((x % NN % sz : Nat) : Int)))).setIfInBounds 72 (.agg #[.int .i64 ((x % NN / sz : Nat) : Int), .int .i64 ((x % NN % sz : Nat) : Int)])).setIfInBounds 13 (.pointer (some ⟨bp, 0, none⟩))).setIfInBounds 14 (.pointer (some ⟨bv, 0, none⟩)), defers := [] })
        (fun x a' _ A B row hs hg hr => by
          obtain ⟨bp, bv, e1, e2, e3, e4, e5⟩ := hs
          exact ⟨bp, bv, e1, e2, blk_own _ _ bp _ () A B row e3 hg hr, blk_own _ _ bv _ () A B row e4 hg hr, e5⟩)
        ?assign ?body ?done ?stop
      case assign =>
        have HI := Lib.hid (GotF.own B st sz gN w.heap.size W0.heap.size W0.heap.size w (Nat.le_refl _) K.out.size)
        intro l pre x W' K hI hK
        have hsz' := hI.2.2.2.2.2
        have hszb := HG.out.lt
        have HII := Lib.hid hI
        subst hact
        clear AW CS hq hq2 NB Z RB HG BX HST hI
        unfold fA plA
        unfold plA at hK
        generalize x % NN / sz = xa at *
        generalize x % NN % sz = xb at *
        gi_wp2
        exact hK _ _ (((KeepsOthers.alloc _ _).trans (KeepsOthers.alloc _ _)).from _) (Kept.below (((Below.refl _ W').alloc (Nat.le_refl _) _).alloc (by simp) _) (fun k hk => by rcases hk with rfl | ⟨q1, q2⟩ <;> omega)) (HI.out.alloc _ (HI.out.alloc _ HII.out))
          ⟨W'.heap.size, W'.heap.size + 1, hsz', by omega, (Blk.new _ _ _).alloc _, by rw [← World.size_alloc W' (.cells #[.int .i64 (xa : Int), .int .i64 (xb : Int)] 30)]; exact Blk.new _ _ _, rfl⟩
      case body =>
        rintro l pre x a' W' hwl hrec ⟨nb, zb, rb, hg, hB, hhi⟩ ⟨bp, bv, hbp, hbv, hpb, hvb, rfl⟩ hlt
        subst hact
        simp only [tS1, tS2, tS3]
        have hba := plc_back sz (x % NN)
        have hkl : x % NN < NN := Nat.mod_lt _ hN0
        obtain ⟨k, hk⟩ : ∃ k, k = x % NN := ⟨_, rfl⟩
        rw [← hk] at hba hkl hpb hvb ⊢
        have hal := Nat.div_le_self k sz
        have hbl := Nat.mod_le k sz
        obtain ⟨a, ha⟩ : ∃ a, a = k / sz := ⟨_, rfl⟩
        obtain ⟨b, hb⟩ : ∃ a, a = k % sz := ⟨_, rfl⟩
        rw [← ha] at hba hal hpb hvb ⊢
        rw [← hb] at hba hbl hpb hvb ⊢
        have HKX := Lib.hid hk
        obtain ⟨p, hp⟩ : ∃ p, p = a * sz := ⟨_, rfl⟩
        have hpi : (a : Int) * (sz : Int) = (p : Int) := by rw [hp]; exact (Int.natCast_mul a sz).symm
        rw [← hp] at hba
        have w3 : IntKind.i64.wrap ((a : Int) * (sz : Int)) = (p : Int) := by rw [hpi, IntKind.wrap_i64]; omega
        have w4 : IntKind.i64.wrap ((p : Int) + (b : Int)) = (k : Int) := by rw [IntKind.wrap_i64]; omega
        have w5 : IntKind.i64.wrap ((pre.length : Int) + 1) = ((pre.length + 1 : Nat) : Int) := by rw [IntKind.wrap_i64]; omega
        have NQ := Lib.hid (fun W => neq46 a b W (by omega) (by omega))
        have p0 : W'.cell? ⟨bp, 0, none⟩ = some (.int .i64 (a : Int)) := hpb.cell 0
        have p1 : W'.cell? ⟨bp, 1, none⟩ = some (.int .i64 (b : Int)) := hpb.cell 1
        have v0 : W'.cell? ⟨bv, 0, none⟩ = some (.int .i64 (a : Int)) := hvb.cell 0
        have v1 : W'.cell? ⟨bv, 1, none⟩ = some (.int .i64 (b : Int)) := hvb.cell 1
        have cz : W'.cell? ⟨w.heap.size, 0, none⟩ = some (.int .i64 (sz : Int)) := zb.cell 0
        have cn : W'.cell? ⟨gN, 0, none⟩ = some (.int .i64 (pre.length : Int)) := nb.cell 0
        have NBr := Lib.hid nb
        have Zr := Lib.hid zb
        have RBr := Lib.hid rb
        have HGr := Lib.hid hg
        have Kr := Lib.hid hB
        have HHI := Lib.hid hhi
        have HLX := Lib.hid (show (pre ++ [x]).length = pre.length + 1 by simp)
        have hgl := hg.lt
        obtain ⟨n, hn⟩ : ∃ n, n = pre.length := ⟨_, rfl⟩
        rw [← hn] at w5 cn NBr HLX
        have HNP := Lib.hid hn
        clear AW CS hq hq2 NB Z RB HG BX HST hrec hpb hvb nb zb rb hg hB hhi hpi hp ha hb hk hba hwl K hlt hn
        by_cases hkn : k = n
        · have e1 : ((k : Int) != (n : Int)) = false := by rw [hkn]; simp
          have e2 : (k != n) = false := by rw [hkn]; simp
          have nq := NQ.out
          have f1 := NBr.out.frozen 0
          have N2 := Lib.hid (NBr.out.set_ 0 (.int .i64 ((n + 1 : Nat) : Int)))
          have Z2 := Lib.hid (Zr.out.far (p := ⟨gN, 0, none⟩) (by show w.heap.size ≠ gN; omega) (.int .i64 ((n + 1 : Nat) : Int)))
          have R2 := Lib.hid (RBr.out.far (p := ⟨gN, 0, none⟩) (by show w.heap.size + 1 ≠ gN; omega) (.int .i64 ((n + 1 : Nat) : Int)))
          have G2 := Lib.hid (HGr.out.grown (gb_cell W' gN 0 (.int .i64 ((n + 1 : Nat) : Int))) (.inr hN1))
          have K2 := Lib.hid (Kr.out.setCell (p := ⟨gN, 0, none⟩) (by show w.heap.size ≤ gN; omega) (.int .i64 ((n + 1 : Nat) : Int)))
          clear hkn
          have gc := gb_cell W' gN 0 (.int .i64 ((n + 1 : Nat) : Int))
          have GC := Lib.hid gc
          clear gc
          gi_wp2
          have hh := HHI.out
          exact ⟨(KeepsOthers.setCell _ _ _).from _, ⟨GC.out.size, fun q hq => GC.out.block q (by rcases hq with rfl | ⟨q1, q2⟩ <;> omega) (fun e => by cases e; rcases hq with h | ⟨q1, q2⟩ <;> omega)⟩, ⟨by rw [HLX.out]; exact N2.out, Z2.out, R2.out, G2.out, K2.out, Nat.le_trans HHI.out GC.out.size⟩⟩
        · have e1 : ((k : Int) != (n : Int)) = true := by rw [bne_iff_ne]; omega
          have e2 : (k != n) = true := by rw [bne_iff_ne]; omega
          have HKN := Lib.hid hkn
          have f2 := RBr.out.frozen 0
          have f3 : W'.cell? ⟨w.heap.size + 1, 0, none⟩ = some (.bool false) := RBr.out.cell 0
          clear hkn NQ
          gi_wp2
          exact ⟨(KeepsOthers.setCell _ _ _).from _, rfl, pre, x, rfl, by rw [← HKX.out, ← HNP.out]; exact HKN.out⟩
      case done =>
        rintro D ys Wn hD hys ⟨nb, zb, rb, hg, hB, hhi⟩ hK
        subst hys
        subst hact
        rw [List.length_range] at nb
        have DK := Lib.hid (show Dfr Wn D from hK)
        replace NB := Lib.hid nb
        replace Z := Lib.hid zb
        replace RB := Lib.hid rb
        replace HG := Lib.hid hg
        replace K := Lib.hid hB
        clear nb zb rb hg hB hK CS BX HST hq2
        go_upto_region 24 with fail
        obtain ⟨k, hk⟩ : ∃ k : Nat, (k : Int) = odd % (NN : Int) := ⟨(odd % (NN : Int)).toNat, Int.toNat_of_nonneg (Int.emod_nonneg _ (by omega))⟩
        have hkl : k < NN := by have := Int.emod_lt_of_pos odd (show (0 : Int) < (NN : Int) by omega); omega
        have CR := Lib.hid (fun W => round_any odd (NN : Int) W (by omega) (by omega))
        rw [← hk] at CR
        have hkq := plc_in sz st k (hNNe ▸ hkl)
        have hkr := Nat.mod_lt k (show 0 < sz by omega)
        have hba := plc_back sz k
        have FF := full2_free sz st k (hNNe ▸ hkl)
        rw [← hNNe] at FF
        have q1 : (k : Int).tdiv (sz : Int) = ((k / sz : Nat) : Int) := rfl
        have q2 : (k : Int).tmod (sz : Int) = ((k % sz : Nat) : Int) := rfl
        have CL := Lib.hid (fun W h => lenA_any B st sz (full2 sz) W h)
        rw [full2_len, ← hNNe] at CL
        have CF := Lib.hid (fun W h => freeA_in B st sz (full2 sz) (k / sz) (k % sz) hkq hkr (((k / sz : Nat) : Int), ((k % sz : Nat) : Int)) (by rw [hba]; rfl) W h)
        rw [hba] at CF
        have CL2 := Lib.hid (fun W h => lenA_any B st sz (putC (full2 sz) k none) W h)
        rw [← hNNe, FF] at CL2
        have CG := Lib.hid (fun W h => getA_none B st sz (putC (full2 sz) k none) (k / sz) (k % sz) hkq hkr (by rw [hba, putC_at]) W h)
        have hal := Nat.div_le_self k sz
        have hbl := Nat.mod_le k sz
        unfold plA at CF CG
        obtain ⟨a, ha⟩ : ∃ a, a = k / sz := ⟨_, rfl⟩
        obtain ⟨b, hb⟩ : ∃ a, a = k % sz := ⟨_, rfl⟩
        rw [← ha] at q1 CF CG hal
        rw [← hb] at q2 CF CG hbl
        have w3 : IntKind.i64.wrap ((st : Int) * (sz : Int)) = (NN : Int) := by rw [hNNe, Int.natCast_mul, IntKind.wrap_i64, ← Int.natCast_mul, ← hNNe]; omega
        have w4 : IntKind.i64.wrap ((k : Int).tdiv (sz : Int)) = (a : Int) := by rw [q1, IntKind.wrap_i64]; omega
        have w4b : IntKind.i64.wrap (a : Int) = (a : Int) := by rw [IntKind.wrap_i64]; omega
        have w5b : IntKind.i64.wrap (b : Int) = (b : Int) := by rw [IntKind.wrap_i64]; omega
        have w5 : IntKind.i64.wrap ((k : Int).tmod (sz : Int)) = (b : Int) := by rw [q2, IntKind.wrap_i64]; omega
        have w8 : IntKind.i64.wrap ((NN : Int) - 1) = ((NN - 1 : Nat) : Int) := by rw [IntKind.wrap_i64]; omega
        obtain ⟨N1, hN1e⟩ : ∃ n, n = NN - 1 := ⟨_, rfl⟩
        rw [← hN1e] at w8 CL2
        have z0 : ((sz : Int) == 0) = false := by simp; omega
        have z1 : ¬ (sz : Int) = 0 := by omega
        have z3 : ¬ sz = 0 := by omega
        have z2 : decide ((sz : Int) = 0) = false := decide_eq_false z1
        have n1 : ((NN : Int) != (NN : Int)) = false := by simp
        have n2 : ((N1 : Int) != (N1 : Int)) = false := by simp
        have ZF := Lib.hid (show (#[Value.int .i64 (sz : Int)] : Array Value)[0]? = some (.int .i64 (sz : Int)) from rfl)
        have NF := Lib.hid (show (#[Value.int .i64 (NN : Int)] : Array Value)[0]? = some (.int .i64 (NN : Int)) from rfl)
        have IPB : Hid ((Try.prog.info? 30).map (·.size) = some (#[Value.int .i64 (a : Int), .int .i64 (b : Int)] : Array Value).size) := i30
        have ONE := Lib.hid (show (#[Value.int .i64 (a : Int), .int .i64 (b : Int)] : Array Value).all (·.oneCell') = true from by simp; first | done | exact ⟨rfl, rfl⟩)
        clear hk hkl hkq hkr hba FF ha hb hN1e hNNe
        have L1 := (Z.out.cell 0).trans ZF.out
        go_wp2_with fail
        clear L1
        refine (CR.out Wn).mono ?_
        rintro e V201 ⟨rfl, rfl⟩
        go_wp2_with fail
        refine wp_noP ?_
        refine wp_region_held (S := (fun w' : World => Blk w' (w.heap.size) 3 #[.int .i64 (sz : Int)])) (by kernel_rfl) ?_
        change wpAnyH _ _ _ _ _ _ _ _ Wn.drew
        have hy : Below Wn.heap.size Wn Wn.drew := (Below.refl _ _).drew
        replace K := Lib.hid (K.out.trans (hy.mono K.out.size))
        replace Z := Lib.hid (Z.out.below hy Z.out.lt)
        replace RB := Lib.hid (RB.out.below hy RB.out.lt)
        replace NB := Lib.hid (NB.out.below hy NB.out.lt)
        replace HG := Lib.hid (HG.out.below hy)
        replace DK := Lib.hid (DK.out.below hy DK.out.lt)
        clear hy
        generalize Wn.drew = Y25h0 at *
        refine tkA 0 (?_) ?_ Z.out ?_
        rotate_left
        · (intro w1 hS; go_simp; try with_reducible rfl)
        simp only [Act.put, tS1, tS2, tS3]
        refine tkA 1 (?_) ?_ Z.out ?_
        rotate_left
        · (intro w1 hS; have hS0 := hS; have q := hS0.cell 0; go_simp; try with_reducible rfl)
        simp only [Act.put, tS1, tS2, tS3]
        refine tkA 2 (?_) ?_ Z.out ?_
        rotate_left
        · (intro w1 hS; go_simp; try with_reducible rfl)
        simp only [Act.put, tS1, tS2, tS3]
        refine tkA 3 (?_) ?_ Z.out ?_
        rotate_left
        · (intro w1 hS; go_simp; try with_reducible rfl)
        simp only [Act.put, tS1, tS2, tS3]
        refine tkA 4 (?_) ?_ Z.out ?_
        rotate_left
        · (intro w1 hS; have hS0 := hS; have q := hS0.cell 0; go_simp; try with_reducible rfl)
        simp only [Act.put, tS1, tS2, tS3]
        refine tkA 5 (?_) ?_ Z.out ?_
        rotate_left
        · (intro w1 hS; go_simp; try with_reducible rfl)
        simp only [Act.put, tS1, tS2, tS3]
        refine tkA 6 (.agg #[.int .i64 (a : Int), .int .i64 (b : Int)]) ?_ Z.out ?_
        · (intro w1 hS; exact exec_build 30 _ rfl #[(0, .int .i64 (a : Int)), (1, .int .i64 (b : Int))] (by kernel_rfl) #[.int .i64 (a : Int), .int .i64 (b : Int)] (built30 _ _))
        simp only [Act.put, tS1, tS2, tS3]
        have hl := HG.out.lt
        have hRb := RB.out.lt
        have hDl := DK.out.lt
        have hNl := NB.out.lt
        refine tkO 7 (fun KK hK => ?_)
        go_simp
        have pb := Blk.new Y25h0 30 #[.int .i64 0, .int .i64 0]
        have hy := (Below.refl Y25h0.heap.size Y25h0).alloc (Nat.le_refl _) (.cells #[.int .i64 0, .int .i64 0] 30)
        replace K := Lib.hid (K.out.trans (hy.mono K.out.size))
        replace Z := Lib.hid (Z.out.below hy Z.out.lt)
        replace RB := Lib.hid (RB.out.below hy RB.out.lt)
        replace NB := Lib.hid (NB.out.below hy NB.out.lt)
        replace HG := Lib.hid (HG.out.below hy)
        replace DK := Lib.hid (DK.out.below hy DK.out.lt)
        obtain ⟨gPB, hgPB⟩ : ∃ g, g = Y25h0.heap.size := ⟨_, rfl⟩
        rw [← hgPB] at pb ⊢
        have PB := Lib.hid pb
        have HPB := Lib.hid hgPB
        clear pb hy hgPB
        generalize Y25h0.alloc (.cells #[.int .i64 0, .int .i64 0] 30) = Y25h1 at *
        refine hK.out _ _ Z.out (fun _ => ?_)
        clear hK KK
        try simp only [Act.put, tS1, tS2, tS3]
        refine tkO 8 (fun KK hK => ?_)
        rw [if_pos (by rfl)]
        have hgp : gPB ≠ D ∧ gPB ≠ gN ∧ w.heap.size + 1 < gPB ∧ B + 2 + st ≤ gPB := by have := HPB.out; omega
        refine wp_blk_store 30 (.tmp 16) (.tmp 104) rfl #[.int .i64 (a : Int), .int .i64 (b : Int)] rfl rfl PB.out rfl IPB.out ONE.out ?_
        intro Y25h2 hA hF hB
        replace K := Lib.hid (K.out.trans (hB _ (by omega)))
        replace Z := Lib.hid (show Blk Y25h2 w.heap.size 3 #[.int .i64 (sz : Int)] from (hF _ (by omega)).trans Z.out)
        replace RB := Lib.hid (show Blk Y25h2 (w.heap.size + 1) 4 #[.bool false] from (hF _ (by omega)).trans RB.out)
        replace NB := Lib.hid (show Blk Y25h2 gN 3 #[.int .i64 (NN : Int)] from (hF _ (by omega)).trans NB.out)
        replace DK := Lib.hid (show Dfr Y25h2 D from (hF _ (by omega)).trans DK.out)
        replace HG := Lib.hid (HG.out.kept fun j h1 h2 => hF j (by omega))
        replace PB := Lib.hid hA
        clear hA hF hB hl hRb hDl hNl
        refine hK.out _ _ Z.out (fun _ => ?_)
        clear hK KK
        try simp only [Act.put]
        refine wpAnyH_done (by kernel_rfl) ?_ _
        simp only [noP]
        clear HPB z0 z1 z2 z3 q1 q2 w4 w5 w4b w5b
        go_wp2_with fail
        refine wp_noP ?_
        refine wp_region_held (S := (fun w' : World => Blk w' (w.heap.size) 3 #[.int .i64 (sz : Int)] ∧ Blk w' (gN) 3 #[.int .i64 (NN : Int)] ∧ Blk w' (gPB) 30 #[.int .i64 (a : Int), .int .i64 (b : Int)])) (by kernel_rfl) ?_
        change wpAnyH _ _ _ _ _ _ _ _ Y25h2.drew
        have hy : Below Y25h2.heap.size Y25h2 Y25h2.drew := (Below.refl _ _).drew
        replace K := Lib.hid (K.out.trans (hy.mono K.out.size))
        replace Z := Lib.hid (Z.out.below hy Z.out.lt)
        replace RB := Lib.hid (RB.out.below hy RB.out.lt)
        replace NB := Lib.hid (NB.out.below hy NB.out.lt)
        replace HG := Lib.hid (HG.out.below hy)
        replace DK := Lib.hid (DK.out.below hy DK.out.lt)
        replace PB := Lib.hid (PB.out.below hy PB.out.lt)
        clear hy
        generalize Y25h2.drew = Y26h0 at *
        refine tkA 0 (?_) ?_ ⟨Z.out, NB.out, PB.out⟩ ?_
        rotate_left
        · (intro w1 hS; obtain ⟨hS0, hS1, hS2⟩ := hS; have q := hS1.cell 0; go_simp; try with_reducible rfl)
        simp only [Act.put, tS1, tS2, tS3]
        refine tkA 1 (?_) ?_ ⟨Z.out, NB.out, PB.out⟩ ?_
        rotate_left
        · (intro w1 hS; go_simp; try with_reducible rfl)
        simp only [Act.put, tS1, tS2, tS3]
        refine tkA 2 (?_) ?_ ⟨Z.out, NB.out, PB.out⟩ ?_
        rotate_left
        · (intro w1 hS; obtain ⟨hS0, hS1, hS2⟩ := hS; have q := hS0.cell 0; go_simp; try with_reducible rfl)
        simp only [Act.put, tS1, tS2, tS3]
        refine tkA 3 (?_) ?_ ⟨Z.out, NB.out, PB.out⟩ ?_
        rotate_left
        · (intro w1 hS; go_simp; try with_reducible rfl)
        simp only [Act.put, tS1, tS2, tS3]
        refine tkA 4 (?_) ?_ ⟨Z.out, NB.out, PB.out⟩ ?_
        rotate_left
        · (intro w1 hS; go_simp; try with_reducible rfl)
        simp only [Act.put, tS1, tS2, tS3]
        refine tkA 5 (?_) ?_ ⟨Z.out, NB.out, PB.out⟩ ?_
        rotate_left
        · (intro w1 hS; go_simp; try with_reducible rfl)
        simp only [Act.put, tS1, tS2, tS3]
        refine tkA 6 (?_) ?_ ⟨Z.out, NB.out, PB.out⟩ ?_
        rotate_left
        · (intro w1 hS; go_simp; try with_reducible rfl)
        simp only [Act.put, tS1, tS2, tS3]
        refine tkA 8 (?_) ?_ ⟨Z.out, NB.out, PB.out⟩ ?_
        rotate_left
        · (intro w1 hS; obtain ⟨hS0, hS1, hS2⟩ := hS; have q := hS1.cell 0; go_simp; try with_reducible rfl)
        simp only [Act.put, tS1, tS2, tS3]
        refine tkO 7 (fun KK hK => ?_)
        go_simp
        refine (CL.out Y26h0 HG.out).mono ?_
        rintro e Y26h1 ⟨rfl, hy⟩
        replace K := Lib.hid (K.out.trans (hy.mono K.out.size))
        replace Z := Lib.hid (Z.out.below hy Z.out.lt)
        replace RB := Lib.hid (RB.out.below hy RB.out.lt)
        replace NB := Lib.hid (NB.out.below hy NB.out.lt)
        replace HG := Lib.hid (HG.out.below hy)
        replace DK := Lib.hid (DK.out.below hy DK.out.lt)
        replace PB := Lib.hid (PB.out.below hy PB.out.lt)
        clear hy
        refine hK.out _ _ ⟨Z.out, NB.out, PB.out⟩ (fun _ => ?_)
        clear hK KK
        try simp only [Act.put, tS1, tS2, tS3]
        refine tkA 9 (?_) ?_ ⟨Z.out, NB.out, PB.out⟩ ?_
        rotate_left
        · (intro w1 hS; go_simp; try with_reducible rfl)
        simp only [Act.put, tS1, tS2, tS3]
        refine tkA 10 (?_) ?_ ⟨Z.out, NB.out, PB.out⟩ ?_
        rotate_left
        · (intro w1 hS; go_simp; try with_reducible rfl)
        simp only [Act.put, tS1, tS2, tS3]
        refine tkA 11 (?_) ?_ ⟨Z.out, NB.out, PB.out⟩ ?_
        rotate_left
        · (intro w1 hS; go_simp; try with_reducible rfl)
        simp only [Act.put, tS1, tS2, tS3]
        refine tkA 12 (?_) ?_ ⟨Z.out, NB.out, PB.out⟩ ?_
        rotate_left
        · (intro w1 hS; go_simp; try with_reducible rfl)
        simp only [Act.put, tS1, tS2, tS3]
        refine tkA 13 (.agg #[.int .i64 (a : Int), .int .i64 (b : Int)]) ?_ ⟨Z.out, NB.out, PB.out⟩ ?_
        · (intro w1 hS; obtain ⟨hS0, hS1, hS2⟩ := hS; exact exec_load 30 (.tmp 16) rfl _ rfl _ (run_blk_load (P := Try.prog) 30 (gPB) _ hS2 Try.underlying30 rfl IPB.out))
        simp only [Act.put, tS1, tS2, tS3]
        refine tkO 14 (fun KK hK => ?_)
        go_simp
        refine (CF.out Y26h1 HG.out).mono ?_
        rintro e Y26h2 ⟨rfl, hg, ha⟩
        replace K := Lib.hid (K.out.trans (ha.below (by omega) K.out.size))
        replace Z := Lib.hid (ha.blk Z.out (by omega))
        replace RB := Lib.hid (ha.blk RB.out (by omega))
        replace NB := Lib.hid (ha.blk NB.out (by omega))
        replace DK := Lib.hid (ha.dfr DK.out (by omega))
        replace PB := Lib.hid (ha.blk PB.out (by omega))
        replace HG := Lib.hid hg
        clear hg
        clear ha
        refine hK.out _ _ ⟨Z.out, NB.out, PB.out⟩ (fun _ => ?_)
        clear hK KK
        try simp only [Act.put, tS1, tS2, tS3]
        refine tkA 15 (?_) ?_ ⟨Z.out, NB.out, PB.out⟩ ?_
        rotate_left
        · (intro w1 hS; go_simp; try with_reducible rfl)
        simp only [Act.put, tS1, tS2, tS3]
        refine tkA 16 (?_) ?_ ⟨Z.out, NB.out, PB.out⟩ ?_
        rotate_left
        · (intro w1 hS; go_simp; try with_reducible rfl)
        simp only [Act.put, tS1, tS2, tS3]
        refine tkA 17 (?_) ?_ ⟨Z.out, NB.out, PB.out⟩ ?_
        rotate_left
        · (intro w1 hS; go_simp; try with_reducible rfl)
        simp only [Act.put, tS1, tS2, tS3]
        refine tkA 18 (?_) ?_ ⟨Z.out, NB.out, PB.out⟩ ?_
        rotate_left
        · (intro w1 hS; go_simp; try with_reducible rfl)
        simp only [Act.put, tS1, tS2, tS3]
        refine tkA 20 (?_) ?_ ⟨Z.out, NB.out, PB.out⟩ ?_
        rotate_left
        · (intro w1 hS; obtain ⟨hS0, hS1, hS2⟩ := hS; have q := hS1.cell 0; go_simp; try with_reducible rfl)
        simp only [Act.put, tS1, tS2, tS3]
        refine tkA 21 (?_) ?_ ⟨Z.out, NB.out, PB.out⟩ ?_
        rotate_left
        · (intro w1 hS; go_simp; try with_reducible rfl)
        simp only [Act.put, tS1, tS2, tS3]
        refine tkO 19 (fun KK hK => ?_)
        go_simp
        refine (CL2.out Y26h2 HG.out).mono ?_
        rintro e Y26h3 ⟨rfl, hy⟩
        replace K := Lib.hid (K.out.trans (hy.mono K.out.size))
        replace Z := Lib.hid (Z.out.below hy Z.out.lt)
        replace RB := Lib.hid (RB.out.below hy RB.out.lt)
        replace NB := Lib.hid (NB.out.below hy NB.out.lt)
        replace HG := Lib.hid (HG.out.below hy)
        replace DK := Lib.hid (DK.out.below hy DK.out.lt)
        replace PB := Lib.hid (PB.out.below hy PB.out.lt)
        clear hy
        refine hK.out _ _ ⟨Z.out, NB.out, PB.out⟩ (fun _ => ?_)
        clear hK KK
        try simp only [Act.put, tS1, tS2, tS3]
        refine tkA 22 (?_) ?_ ⟨Z.out, NB.out, PB.out⟩ ?_
        rotate_left
        · (intro w1 hS; go_simp; try with_reducible rfl)
        simp only [Act.put, tS1, tS2, tS3]
        refine tkA 23 (?_) ?_ ⟨Z.out, NB.out, PB.out⟩ ?_
        rotate_left
        · (intro w1 hS; go_simp; try with_reducible rfl)
        simp only [Act.put, tS1, tS2, tS3]
        refine wpAnyH_done (by kernel_rfl) ?_ _
        simp only [noP]
        have L2 : (loadVar 30 ⟨gPB, 0, none⟩).run Try.prog Y26h3 = .ok (.agg #[.int .i64 (a : Int), .int .i64 (b : Int)]) Y26h3 := run_blk_load (P := Try.prog) 30 (gPB) _ PB.out Try.underlying30 rfl IPB.out
        replace L2 := Lib.hid L2
        go_wp2_with (((with_reducible refine wpList_load_want (op := ⟨some 131, .load 30 (.tmp 16), _, _, _, _⟩) ?wg2 30 (.tmp 16) ?wo2 ⟨gPB, 0, none⟩ ?wx2 (.agg #[.int .i64 (a : Int), .int .i64 (b : Int)]) L2.out ?_); (case wg2 => rfl); (case wo2 => rfl); (case wx2 => rfl)))
        clear L2
        refine (CG.out Y26h3 HG.out).mono ?_
        rintro e V202 ⟨rfl, hy⟩
        replace K := Lib.hid (K.out.trans (hy.mono K.out.size))
        replace Z := Lib.hid (Z.out.below hy Z.out.lt)
        replace RB := Lib.hid (RB.out.below hy RB.out.lt)
        replace NB := Lib.hid (NB.out.below hy NB.out.lt)
        replace HG := Lib.hid (HG.out.below hy)
        replace DK := Lib.hid (DK.out.below hy DK.out.lt)
        replace PB := Lib.hid (PB.out.below hy PB.out.lt)
        clear hy
        have hal := (Below.refl V202.heap.size V202).alloc (Nat.le_refl _) (.cells #[.int .i64 0, .int .i64 0] 46)
        replace K := Lib.hid (K.out.trans (hal.mono K.out.size))
        replace Z := Lib.hid (Z.out.below hal Z.out.lt)
        replace RB := Lib.hid (RB.out.below hal RB.out.lt)
        replace NB := Lib.hid (NB.out.below hal NB.out.lt)
        replace HG := Lib.hid (HG.out.below hal)
        replace DK := Lib.hid (DK.out.below hal DK.out.lt)
        replace PB := Lib.hid (PB.out.below hal PB.out.lt)
        clear hal HG PB Z NB
        go_upto_region 29 with fail
        generalize V202.alloc (.cells #[.int .i64 0, .int .i64 0] 46) = Vq at *
        go_wp2_with fail
        refine (AW.out Vq).mono ?_
        rintro e V203 ⟨rfl, hy⟩
        replace K := Lib.hid (K.out.trans (hy.mono K.out.size))
        replace RB := Lib.hid (RB.out.below hy RB.out.lt)
        replace DK := Lib.hid (DK.out.below hy DK.out.lt)
        clear hy
        have k1 : V203.cell? ⟨w.heap.size + 1, 0, none⟩ = some (.bool false) := RB.out.cell 0
        have k2 := RB.out.frozen 0
        have R2 := Lib.hid (RB.out.set_ 0 (.bool true))
        have K2 := Lib.hid (K.out.setCell (p := ⟨w.heap.size + 1, 0, none⟩) (by show w.heap.size ≤ w.heap.size + 1; omega) (.bool true))
        have D2 : Hid (Dfr (V203.setCell ⟨w.heap.size + 1, 0, none⟩ (.bool true)) D) := (Below.heap_setCell _ _ _ D (by show D ≠ w.heap.size + 1; have := K0.out.size; omega)).trans DK.out
        clear DK RB K
        go_wp2
        refine ⟨by simp, .inl ⟨_, _, rfl, run_takeDeferred D2.out, ?_⟩⟩
        exact leave4 rfl (R2.out.below (belowK_b (w := V) (Nat.le_refl _) _ D _ _ (by have := K0.out.size; omega) D2.out rfl rfl) (by omega)) ⟨rfl, K2.out.trans ((belowK_b (w := V) (Nat.le_refl _) _ D _ _ (by have := K0.out.size; omega) D2.out rfl rfl).mono (by omega))⟩
      case stop =>
        rintro D c l Wn hD ⟨k, hk, hl⟩ ⟨rfl, pre, x, e, hx⟩ hK
        exfalso
        rw [hl] at e
        have h1 := congrArg List.length e
        rw [List.length_range, List.length_append, List.length_singleton] at h1
        have h2 := congrArg (fun l : List Nat => l[pre.length]?) e
        simp only [List.getElem?_append_right (Nat.le_refl _), Nat.sub_self, List.getElem?_cons_zero] at h2
        rw [List.getElem?_range (by omega)] at h2
        obtain rfl : pre.length = x := Option.some.inj h2
        exact hx (Nat.mod_eq_of_lt (by omega))
end Go.Proofs.Ytimnmdeiiahakaa
