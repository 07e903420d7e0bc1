/- bazaarlaw15.all: all that is there, left off behind so many. -/
import Derived.Test.YtimnmdeiiahakaaS19p
import Derived.RangeFuncRecord
import Derived.Maps.AppendAt
import Derived.OwnWalkIn
import Derived.TacticsInMore
import Derived.LoopNIn
import Derived.Deep.CutBlock
import Derived.Deep.DeepCutAuto
import Derived.LoopTactic
import Derived.Handy
namespace Go.Proofs.Ytimnmdeiiahakaa
open Go.RowKit Go.Shelf
attribute [local go_sem] Oper.semAt_some

/-- Cells of items: the place's two numbers, what is there. -/
def icell (sz : Nat) (x : Nat × Int) : List Value := [.int .i64 ((x.1 / sz : Nat) : Int), .int .i64 ((x.1 % sz : Nat) : Int), .int .i64 x.2]
def icells (sz : Nat) (L : List (Nat × Int)) : List Value := L.flatMap (icell sz)
theorem icells_append (sz : Nat) (A B : List (Nat × Int)) : icells sz (A ++ B) = icells sz A ++ icells sz B := by unfold icells; rw [List.flatMap_append]
theorem icells_cons (sz : Nat) (x : Nat × Int) (L : List (Nat × Int)) : icells sz (x :: L) = icell sz x ++ icells sz L := by unfold icells; rw [List.flatMap_cons]
theorem icells_len (sz : Nat) (L : List (Nat × Int)) : (icells sz L).length = L.length * 3 := by
  induction L with
  | nil => rfl
  | cons x L ih => rw [icells_cons, List.length_append, ih, List.length_cons, Nat.succ_mul]; simp [icell]; omega
theorem icells_get (sz : Nat) (L : List (Nat × Int)) (k j : Nat) (x : Nat × Int) (h : L[k]? = some x) (hj : j < 3) : (icells sz L)[k * 3 + j]? = (icell sz x)[j]? := by
  induction L generalizing k with
  | nil => simp at h
  | cons y L ih =>
    rw [icells_cons]
    cases k with
    | zero =>
      obtain rfl : y = x := by simpa using h
      rw [Nat.zero_mul, Nat.zero_add, List.getElem?_append_left (by simp [icell]; omega)]
    | succ k =>
      rw [List.getElem?_append_right (by simp [icell]; omega), show (k + 1) * 3 + j - (icell sz y).length = k * 3 + j by simp [icell]; omega]
      exact ih k (by simpa using h)
theorem icell_get {sz : Nat} {x : Nat × Int} : (icell sz x)[0]? = some (.int .i64 ((x.1 / sz : Nat) : Int)) ∧ (icell sz x)[1]? = some (.int .i64 ((x.1 % sz : Nat) : Int)) ∧ (icell sz x)[2]? = some (.int .i64 x.2) := ⟨rfl, rfl, rfl⟩
theorem info35 : (Try.prog.info? 35).map (fun i => (i.zero, i.size, i.bytes)) = some (some (.agg #[.int .i64 0, .int .i64 0, .int .i64 0]), 3, 24) := by kernel_rfl
theorem row_shape {w : World} {base : Nat} {e : TypeId} {v : Value} {k n : Nat} {xs : List Value} (h : w.ownsRow base e k v n xs) : ∃ a c, v = .slice a n c := by
  rcases h.2 with ⟨rfl, rfl⟩ | ⟨g, cap, cur, rfl, -⟩
  · exact ⟨_, _, rfl⟩
  · exact ⟨_, _, rfl⟩
/-- What is told, where no more than so many are. -/
def cutG {α : Type} (L : List α) (most : Int) : List α := if 0 ≤ most ∧ most ≤ (L.length : Int) then L.take most.toNat else L
theorem cutG_done {α : Type} (L : List α) (most : Int) (h : 0 ≤ most → (L.length : Int) ≤ most) : cutG L most = L := by
  unfold cutG
  split
  · rename_i hc
    have := h hc.1
    exact List.take_of_length_le (by omega)
  · rfl
theorem cutG_stop {α : Type} (L pre : List α) (most : Int) (x : α) (k : Nat) (h : pre ++ [x] = L.take k) (hm : (pre.length : Int) = most) : cutG L most = pre := by
  have hl : pre.length + 1 = (L.take k).length := by rw [← h]; simp
  rw [List.length_take] at hl
  unfold cutG
  rw [if_pos (by omega), ← hm]
  have : (L.take k).take pre.length = pre := by rw [← h]; simp
  rw [List.take_take] at this
  rw [show min pre.length k = pre.length by omega] at this
  exact this
def GotI (sz b hi : Nat) (most : Int) (w0 : World) (l : List (Nat × Int)) (W : World) : Prop :=
  (∃ v, Boxed W (b + 1) 28 v ∧ W.ownsRow hi 35 3 v l.length (icells sz l) ∧ True) ∧
  Boxed W b 3 (.int .i64 most) ∧ (0 ≤ most → (l.length : Int) ≤ most) ∧ hi ≤ W.heap.size ∧ Below b w0 W
theorem GotI.own (sz b hi B : Nat) (most : Int) (w0 : World) (h : b ≤ w0.heap.size) (hB : b ≤ B) : OwnFrom B (GotI sz b hi most w0) :=
  OwnFrom.and (Own.from (holdsRow_own hi (b + 1) 28 35 3 (fun l : List (Nat × Int) => l.length) (fun l => icells sz l) (fun _ _ => True)) _)
    (OwnFrom.and (Own.from (boxed_own b 3 (fun _ => .int .i64 most)) _) (OwnFrom.and (ownFrom_pure _ (fun l : List (Nat × Int) => (0 ≤ most → (l.length : Int) ≤ most))) (OwnFrom.and (fun _ _ _ _ hs hg _ => Nat.le_trans hs hg.size) (ownFrom_below h hB))))
theorem eql_fnG (x y : Array Value) (w : World) : (binOp .eql 74 (.func (.func 34) x y) .nilFunc).run Try.prog w = .ok (.bool false) w := by kernel_rfl
/-- The loop's variable lies in a block. -/
theorem blk_own (t : TypeId) (cs : Array Value) (bp B : Nat) : OwnFrom B (fun (_ : Unit) W => Blk W bp t cs) := fun _ X Y row hb hg hr =>
  show Y.heap[bp]? = _ from (hg.block bp hb.lt (fun e' => by
    obtain ⟨-, o, ho, hc⟩ := hr bp e'.symm
    rw [show X.heap[bp]? = _ from hb] at ho
    cases ho
    simp [Obj.isCells] at hc)).trans hb
theorem cell_three_new (W : World) (c d f : Int) (e : TypeId) : ∀ j u, ([.int .i64 c, .int .i64 d, .int .i64 f] : List Value)[j]? = some u → (W.alloc (.cells #[.int .i64 c, .int .i64 d, .int .i64 f] e)).cell? ((⟨W.heap.size, 0, none⟩ : Addr).add j) = some u := by
  intro j u hj
  have hg := World.alloc_heap_new W (.cells #[.int .i64 c, .int .i64 d, .int .i64 f] e)
  rw [Addr.add_lit]
  match j, hj with
  | 0, hj => cases hj; simp only [World.cell?, hg]; rfl
  | 1, hj => cases hj; simp only [World.cell?, hg]; rfl
  | 2, hj => cases hj; simp only [World.cell?, hg]; rfl
theorem one_three (c d f : Int) : ∀ u ∈ ([.int .i64 c, .int .i64 d, .int .i64 f] : List Value), u.oneCell' = true := by
  intro u hu
  simp at hu
  rcases hu with rfl | rfl | rfl <;> rfl
theorem box_appG {W w1 : World} {hi b B s : Nat} {t e : TypeId} {v v' : Value} {k m : Nat} {xs ys : List Value} {tmp : Obj}
    (hv : Boxed W B t v) (hte : t ≠ e) (hrow : W.ownsRow hi e s v k xs) (hhi : hi ≤ W.heap.size) (hbB : b ≤ B) (hBh : B < hi)
    (hown' : w1.ownsRow hi e s v' m ys) (hgrow : (W.alloc tmp).grownBy w1 v.ownBlock) :
    Boxed w1 B t v ∧ Boxed (w1.setCell ⟨B, 0, none⟩ v') B t v' ∧ (w1.setCell ⟨B, 0, none⟩ v').ownsRow hi e s v' m ys ∧ KeepsOthers W (w1.setCell ⟨B, 0, none⟩ v') ∧ Kept (fun q => q < hi ∧ q ≠ B) W (w1.setCell ⟨B, 0, none⟩ v') ∧ Below b W (w1.setCell ⟨B, 0, none⟩ v') := by
  have hv1 : Boxed w1 B t v := (hv.alloc tmp).kept hgrow (hv.not_row hte hrow)
  have hb : ∀ j, v.ownBlock = some j → hi ≤ j := fun j ej => (hrow.lt j ej).1
  refine ⟨hv1, hv1.set v', hown'.kept (grownBy_setCell' w1 B v') (.inr (hv1.not_row hte hown').symm), ?_, ⟨?_, fun k h1 => ?_⟩, ?_⟩
  · refine ((KeepsOthers.alloc W tmp).trans (KeepsOthers.of_grownBy hgrow fun j o ej hj => ?_)).trans (KeepsOthers.setCell _ _ _)
    rcases (hrow.alloc tmp).2 with ⟨rfl, _⟩ | ⟨g, cap, cur, rfl, _, hgb, _⟩
    · simp [Value.ownBlock] at ej
    · obtain rfl : g = j := by simpa [Value.ownBlock] using ej
      rw [hgb] at hj; cases hj; rfl
  · have h1 := hgrow.size
    have h2 := (grownBy_setCell' w1 B v').size
    rw [World.size_alloc] at h1
    omega
  · refine ((grownBy_setCell' w1 B v').block k (by have := hgrow.size; rw [World.size_alloc] at this; omega) (fun e => h1.2 (by cases e; rfl))).trans ((hgrow.block k (by rw [World.size_alloc]; omega) (fun e => ?_)).trans (Below.heap_alloc W tmp k (by omega)))
    have := hb k e.symm
    omega
  · exact (((Below.refl b W).alloc (by omega) tmp).grown hgrow (by rw [World.size_alloc]; omega) fun j ej => by have := hb j ej; omega).setCell (p := ⟨B, 0, none⟩) hbB v'
theorem own_low2 {w : World} {b1 b2 : Nat} {e : TypeId} {k : Nat} {v : Value} {n : Nat} {xs : List Value} (hb : b1 ≤ b2) (h : w.ownsRow b2 e k v n xs) : w.ownsRow b1 e k v n xs := by
  refine ⟨h.1, ?_⟩
  rcases h.2 with h0 | ⟨g, cap, cur, e1, hbg, h3⟩
  · exact .inl h0
  · exact .inr ⟨g, cap, cur, e1, Nat.le_trans hb hbg, h3⟩
set_option maxRecDepth 100000 in
set_option maxHeartbeats 4000000 in
theorem all_any (B st sz : Nat) (c : Nat → Option Int) (most : Int) (w : World) (hG : GdI B st sz c w) :
    Calls Try.prog 13 #[.pointer (some ⟨B + 1, 0, none⟩), .int .i64 most] w fun e w' => ∃ x, e = .returned x ∧ w'.ownsRow w.heap.size 35 3 x (cutG (itF c 0 (st * sz)) most).length (icells sz (cutG (itF c 0 (st * sz)) most)) ∧ Below w.heap.size w w' := by
  obtain ⟨i0, hi, hz0, hz1, hz2⟩ := info_parts info35
  have hl4 := itF_len c 0 (st * sz)
  have hl5 := sz_le hG.s2 hG.z2
  obtain ⟨L, hL⟩ : ∃ L, L = itF c 0 (st * sz) := ⟨_, rfl⟩
  rw [← hL] at hl4 ⊢
  refine (callsIn_wide (n := 3)).1 ?_
  refine callsIn_of_wp_marks Try.func13 rfl trivial ?_ rfl
  simp only [Try.ntmps13, List.size_toArray, List.length_cons, List.length_nil, Nat.reduceAdd, Nat.reduceSub, Array.replicate_succ, Array.replicate_zero, List.push_toArray, List.append_toArray, List.nil_append, List.cons_append]
  have hb3 : Below w.heap.size w ((w.alloc (.cells #[.int .i64 most] 3)).alloc (.cells #[.slice none 0 0] 28)) :=
    ((Below.refl _ w).alloc (Nat.le_refl _) _).alloc (by simp) _
  have x1 := (Boxed.new w 3 (.int .i64 most)).alloc (.cells #[.slice none 0 0] 28)
  have x2 := Boxed.new (w.alloc (.cells #[.int .i64 most] 3)) 28 (.slice none 0 0)
  simp only [World.size_alloc] at x1 x2
  obtain ⟨W, hW⟩ : ∃ W, W = (w.alloc (.cells #[.int .i64 most] 3)).alloc (.cells #[.slice none 0 0] 28) := ⟨_, rfl⟩
  rw [← hW] at hb3 x1 x2
  have HW := Lib.hid hW
  clear hW
  gi_wp2
  refine ⟨trivial, ?_⟩
  rw [← HW.out]
  have hWs : W.heap.size = w.heap.size + 2 := by rw [HW.out]; simp
  have hgl : B + 2 + st ≤ w.heap.size := hG.lt
  have GW : GdI B st sz c W := hG.belowB hb3 hgl
  clear HW
  refine (callsIn_wide.2 (allI_fn (some ⟨B + 1, 0, none⟩) W)).mono ?_
  rintro e W0 ⟨rfl, h1, h5⟩
  have hq := eql_fnG
  rw [hWs] at h1 ⊢
  gi_wp2_with fail
  have hW0 := h5.size
  have hBs := h1.lt
  have hwW0 : Below w.heap.size w W0 := hb3.trans (h5.mono (by omega))
  have G0 : GdI B st sz c W0 := GW.below h5
  have g0 : GotI sz w.heap.size W0.heap.size most w [] W0 :=
    ⟨⟨_, (h5.block _ (by omega)).trans x2, World.ownsRow_nil _ _ _ _, trivial⟩, (h5.block _ (by omega)).trans x1, fun h => by simpa using h, Nat.le_refl _, hwW0⟩
  have hst := itI_stops 2 (by omega) (w.heap.size + 2) B st sz c W0 h1 G0
  rw [← hL] at hst
  refine wpIn_rangeFunc_ownH rfl (by omega) (gf := 34) (lb := #[.pointer (some ⟨w.heap.size + 2, 0, none⟩)]) rfl trivial (enters_of Try.func34 (by kernel_rfl) rfl)
    hst (fun h k => Kept.trans h k) (kept_b (fun k hk => by rcases hk with rfl | ⟨q1, q2⟩ <;> omega)) (Below.refl _ _) (fun _ => rfl)
    (GotI sz w.heap.size W0.heap.size most w)
    (fun c l W' => c = .exit 0 ∧ ∃ pre x, l = pre ++ [x] ∧ GotI sz w.heap.size W0.heap.size most w pre W' ∧ (pre.length : Int) = most)
    (GotI.own _ _ _ _ _ _ (Nat.le_refl _) (by omega))
    (fun c s A B row hs hg hr => by
      obtain ⟨e1, pre, x, e2, e3, e4⟩ := hs
      exact ⟨e1, pre, x, e2, GotI.own _ _ _ W0.heap.size _ _ (Nat.le_refl _) (by omega) pre A B row e3 hg hr, e4⟩)
    g0
    (fun x a' W' => ∃ bp, W0.heap.size ≤ bp ∧ Blk W' bp 30 (pcG sz x) ∧ a' = { tmps := #[.pointer (some ⟨B + 1, 0, none⟩), .int .i64 most, undef, .pointer (some ⟨w.heap.size, 0, none⟩), .slice none 0 0, .pointer (some ⟨w.heap.size + 1, 0, none⟩), .func (.func 34) #[] #[.pointer (some ⟨w.heap.size + 2, 0, none⟩)], .pointer (some ⟨bp, 0, none⟩), .int .i64 x.2, .pointer (some ⟨B + 1, 0, none⟩), .func (.func 34) #[] #[.pointer (some ⟨w.heap.size + 2, 0, none⟩)], .func (.func 34) #[] #[.pointer (some ⟨w.heap.size + 2, 0, none⟩)], .bool false, .func (.func 34) #[] #[.pointer (some ⟨w.heap.size + 2, 0, none⟩)], .agg (pcG sz x), .int .i64 x.2, undef, undef, undef, undef, undef, undef, undef, undef, undef, undef, undef], defers := [] })
    (fun x a' _ A B row hs hg hr => by
      obtain ⟨bp, e1, e2, e3⟩ := hs
      exact ⟨bp, e1, blk_own _ _ bp _ () A B row e2 hg hr, e3⟩)
    ?assign ?body ?done ?stop
  case assign =>
    intro l pre x W' K hI hK
    have hsz := hI.2.2.2.1
    have h1l := h1.lt
    have HI := Lib.hid (GotI.own sz w.heap.size W0.heap.size W0.heap.size most w (Nat.le_refl _) (by omega))
    clear hst hb3 x1 x2 h1 h5 hwW0 g0 hq GW G0
    unfold pcG plA at hK ⊢
    gi_wp2
    exact hK _ _ ((KeepsOthers.alloc _ _).from _) (Kept.below ((Below.refl _ W').alloc (Nat.le_refl _) _) (fun k hk => by rcases hk with rfl | ⟨q1, q2⟩ <;> omega)) (HI.out.alloc _ hI) ⟨W'.heap.size, hsz, Blk.new _ _ _, rfl⟩
  case body =>
    rintro l pre x a' W' hwl hrec ⟨⟨v1, bx1, r1, _⟩, bxm, hle, hhi, hB⟩ ⟨bp, hbp, hbb, rfl⟩ hlt
    have hpl : pre.length ≤ 4096 := by omega
    have HRest := Lib.hid (And.intro hst (And.intro hb3 (And.intro x1 (And.intro x2 (And.intro h1 (And.intro h5 (And.intro hwW0 g0)))))))
    have HRec := Lib.hid hrec
    clear hst hb3 x1 x2 h1 h5 hwW0 g0 hq hrec GW G0
    obtain ⟨a1, k1, rfl⟩ := row_shape r1
    have c1 := bx1.cell
    have cm := bxm.cell
    have p0 : W'.cell? ⟨bp, 0, none⟩ = some (.int .i64 ((x.1 / sz : Nat) : Int)) := hbb.cell 0
    have p1 : W'.cell? ⟨bp, 1, none⟩ = some (.int .i64 ((x.1 % sz : Nat) : Int)) := hbb.cell 1
    have HIC := Lib.hid (show icells sz [x] = icell sz x from by rw [icells_cons]; rfl)
    unfold icell at HIC
    generalize pcG sz x = pq at *
    obtain ⟨xs, hxs⟩ : ∃ q : Nat, q = x.1 / sz := ⟨_, rfl⟩
    obtain ⟨xi, hxi⟩ : ∃ q : Nat, q = x.1 % sz := ⟨_, rfl⟩
    rw [← hxs] at p0 HIC
    rw [← hxi] at p1 HIC
    clear hxs hxi
    by_cases hm : (pre.length : Int) = most
    · have hmq : (((pre.length : Nat) : Int) == most) = true := by rw [beq_iff_eq]; exact hm
      have HM := Lib.hid hm
      have HLt := Lib.hid hlt
      have HLe := Lib.hid hle
      clear hm hlt hle
      gi_wp2
      refine ⟨KeepsFrom.refl _ _, rfl, pre, x, rfl, ⟨⟨_, bx1, r1, trivial⟩, bxm, HLe.out, hhi, hB⟩, HM.out⟩
    · have hmq : (((pre.length : Nat) : Int) == most) = false := by rw [beq_eq_false_iff_ne]; exact hm
      have HM := Lib.hid hm
      have HLt := Lib.hid hlt
      have HLe := Lib.hid hle
      clear hm hlt hle
      gi_wp2_with (gi_at_builtin; refine wpListIn_append_own _ rfl _ _ 28 rfl W0.heap.size 35 i0 _ 3 24 Try.underlying28 hi hz0 hz1 hz2 rfl (by decide) _ _ _ rfl (r1.alloc _) ⟨W'.heap.size, 0, none⟩ 1 1 [.int .i64 (xs : Int), .int .i64 (xi : Int), .int .i64 x.2] rfl rfl (cell_three_new _ _ _ _ _) (one_three _ _ _) (by unfold maxLen; omega) (by omega) (by rw [World.size_alloc]; omega) ?_; intro v' w1 hown' hgrow _; obtain ⟨g', cap', rfl⟩ := ownsRow_succ hown'; obtain ⟨hv1, hv2, hr2, hk2, hm2, hb2⟩ := box_appG bx1 (by decide) r1 hhi (show w.heap.size ≤ w.heap.size + 1 by omega) (by omega) hown' hgrow; have hc1 := hv1.cell; have hf1 := hv1.frozen)
      have hmo := HM.out
      have hlo := HLe.out
      refine ⟨hk2.from _, ⟨hm2.1, fun q hq => hm2.2 q (by rcases hq with rfl | ⟨q1, q2⟩ <;> omega)⟩, ⟨⟨_, hv2, by rw [List.length_append, icells_append, HIC.out]; exact hr2, trivial⟩, ((bxm.alloc _).kept hgrow (bxm.not_row (by decide) r1)).other (by omega) _, fun h => ?_, Nat.le_trans hhi hk2.size, hB.trans (hb2.mono (Nat.le_refl _))⟩⟩
      have := hlo h
      rw [List.length_append, List.length_singleton]; push_cast; omega
  case done =>
    rintro D ys Wn hD hys ⟨⟨v1, bx1, r1, _⟩, bxm, hle, hhi, hB⟩ hK
    have c1 := bx1.cell
    have HWD : Hid (cutG L most = ys) := by subst hys; exact cutG_done _ _ hle
    have HR1 := Lib.hid r1
    clear hst hys r1 hle hb3 x1 x2 h1 h5 hBs hwW0 g0 hq GW G0
    gi_wp2
    refine ⟨by simp, .inl ⟨_, _, rfl, run_takeDeferred hK, ?_⟩⟩
    refine ⟨_, results_tmp rfl _ _ _, v1, rfl, ?_, hB.trans (belowK_b (w := w) (Nat.le_refl _) Wn D _ _ (by omega) hK rfl rfl)⟩
    rw [HWD.out]; exact own_low2 (by omega) (ownsRow_putObj HR1.out _ hK rfl)
  case stop =>
    rintro D c l Wn hD ⟨k, hk, hl⟩ ⟨rfl, pre, x, e, ⟨⟨v1, bx1, r1, _⟩, bxm, hle, hhi, hB⟩, hm⟩ hK
    have c1 := bx1.cell
    have HWD : Hid (cutG L most = pre) := cutG_stop L pre most x k (by rw [← e, hl]) hm
    have HR1 := Lib.hid r1
    clear hst hl e hm r1 hle hb3 x1 x2 h1 h5 hBs hwW0 g0 hq GW G0
    gi_wp2
    refine ⟨by simp, .inl ⟨_, _, rfl, run_takeDeferred hK, ?_⟩⟩
    refine ⟨_, results_tmp rfl _ _ _, v1, rfl, ?_, hB.trans (belowK_b (w := w) (Nat.le_refl _) Wn D _ _ (by omega) hK rfl rfl)⟩
    rw [HWD.out]; exact own_low2 (by omega) (ownsRow_putObj HR1.out _ hK rfl)
end Go.Proofs.Ytimnmdeiiahakaa
