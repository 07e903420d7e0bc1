/- Texts that the walks of this seat lean on, put together: each has its own remark below. -/
import Derived.DeepKeys
import Derived.Lib.SlBytesConst
import Derived.Test.YtopfbgoiehlhbaaM02
import Derived.Test.YtopfbgoiehlhbaaM15
import Derived.Test.YtopfbgoiehlhbaaM19
import Derived.Test.YtopfbgoiehlhbaaM21

/- bazaarlaw8.names: the layers that are told, left off behind so many. -/
namespace Go.Proofs.Ytopfbgoiehlhbaa
open Go.RowKit Go.Shelf
attribute [local go_sem] Oper.semAt_some

/-- The layers that are told, where no more than so many are. -/
def cutL (L : List (Nat × Nat)) (most : Int) : List (Nat × Nat) := if 0 ≤ most ∧ most ≤ (L.length : Int) then L.take most.toNat else L
theorem cutL_done (L : List (Nat × Nat)) (most : Int) (h : 0 ≤ most → (L.length : Int) ≤ most) : cutL L most = L := by
  unfold cutL
  split
  · rename_i hc
    have := h hc.1
    exact List.take_of_length_le (by omega)
  · rfl
theorem cutL_stop (L pre : List (Nat × Nat)) (most : Int) (x : Nat × Nat) (k : Nat) (h : pre ++ [x] = L.take k) (hm : (pre.length : Int) = most) : cutL L most = pre := by
  have hl : pre.length + 1 = (L.take k).length := by rw [← h]; simp
  rw [List.length_take] at hl
  unfold cutL
  rw [if_pos (by omega), ← hm]
  have : (L.take k).take pre.length = pre := by rw [← h]; simp
  rw [List.take_take] at this
  rw [show min pre.length k = pre.length by omega] at this
  exact this

def Got8 (b hi : Nat) (most : Int) (w0 : World) (l : List (Nat × Nat)) (W : World) : Prop :=
  (∃ v, Boxed W (b + 1) 34 v ∧ W.ownsRow hi 46 2 v l.length (lcells l) ∧ True) ∧
  Boxed W b 3 (.int .i64 most) ∧ (0 ≤ most → (l.length : Int) ≤ most) ∧ hi ≤ W.heap.size ∧ Below b w0 W
theorem Got8.own (b hi B : Nat) (most : Int) (w0 : World) (h : b ≤ w0.heap.size) (hB : b ≤ B) : OwnFrom B (Got8 b hi most w0) :=
  OwnFrom.and (Own.from (holdsRow_own hi (b + 1) 34 46 2 (fun l : List (Nat × Nat) => l.length) (fun l => lcells l) (fun _ _ => True)) _)
    (OwnFrom.and (Own.from (boxed_own b 3 (fun _ => .int .i64 most)) _) (OwnFrom.and (ownFrom_pure _ (fun l : List (Nat × Nat) => (0 ≤ most → (l.length : Int) ≤ most))) (OwnFrom.and (fun _ _ _ _ hs hg _ => Nat.le_trans hs hg.size) (ownFrom_below h hB))))
theorem eql_fn8 (f : Nat) (x y : Array Value) (w : World) : (binOp .eql 66 (.func (.func f) x y) .nilFunc).run Try.prog w = .ok (.bool false) w := by kernel_rfl
theorem box_app {W w1 : World} {lo hi b B : Nat} {t e : TypeId} {v v' : Value} {k m : Nat} {xs ys : List Value} {tmp : Obj}
    (hv : Boxed W B t v) (hte : t ≠ e) (hrow : W.ownsRow hi e 2 v k xs) (hhi : hi ≤ W.heap.size) (hbB : b ≤ B) (hBlo : B < lo) (hlh : lo ≤ hi)
    (hown' : w1.ownsRow hi e 2 v' m ys) (hgrow : (W.alloc tmp).grownBy w1 v.ownBlock) :
    Boxed w1 B t v ∧ Boxed (w1.setCell ⟨B, 0, none⟩ v') B t v' ∧ (w1.setCell ⟨B, 0, none⟩ v').ownsRow hi e 2 v' m ys ∧ KeepsOthers W (w1.setCell ⟨B, 0, none⟩ v') ∧ Mid lo hi W (w1.setCell ⟨B, 0, none⟩ v') ∧ Below b W (w1.setCell ⟨B, 0, none⟩ v') := by
  have hv1 : Boxed w1 B t v := (hv.alloc tmp).kept hgrow (hv.not_row hte hrow)
  have hb : ∀ j, v.ownBlock = some j → hi ≤ j := fun j ej => (hrow.lt j ej).1
  refine ⟨hv1, hv1.set v', hown'.kept (grownBy_setCell' w1 B v') (.inr (hv1.not_row hte hown').symm), ?_, ⟨?_, fun k h1 h2 => ?_⟩, ?_⟩
  · refine ((KeepsOthers.alloc W tmp).trans (KeepsOthers.of_grownBy hgrow fun j o ej hj => ?_)).trans (KeepsOthers.setCell _ _ _)
    rcases (hrow.alloc tmp).2 with ⟨rfl, _⟩ | ⟨g, cap, cur, rfl, _, hgb, _⟩
    · simp [Value.ownBlock] at ej
    · obtain rfl : g = j := by simpa [Value.ownBlock] using ej
      rw [hgb] at hj; cases hj; rfl
  · have h1 := hgrow.size
    have h2 := (grownBy_setCell' w1 B v').size
    rw [World.size_alloc] at h1
    omega
  · refine ((grownBy_setCell' w1 B v').block k (by have := hgrow.size; rw [World.size_alloc] at this; omega) (fun e => by cases e; omega)).trans ((hgrow.block k (by rw [World.size_alloc]; omega) (fun e => ?_)).trans (Below.heap_alloc W tmp k (by omega)))
    have := hb k e.symm
    omega
  · exact (((Below.refl b W).alloc (by omega) tmp).grown hgrow (by rw [World.size_alloc]; omega) fun j ej => by have := hb j ej; omega).setCell (p := ⟨B, 0, none⟩) hbB v'

theorem own_low2 {w : World} {b1 b2 : Nat} {e : TypeId} {k : Nat} {v : Value} {n : Nat} {xs : List Value} (hb : b1 ≤ b2) (h : w.ownsRow b2 e k v n xs) : w.ownsRow b1 e k v n xs := by
  refine ⟨h.1, ?_⟩
  rcases h.2 with h0 | ⟨g, cap, cur, e1, hbg, h3⟩
  · exact .inl h0
  · exact .inr ⟨g, cap, cur, e1, Nat.le_trans hb hbg, h3⟩
theorem cell_two_new (W : World) (c : ByteArray) (m : Int) (e : TypeId) : ∀ j u, ([.string c, .int .i64 m] : List Value)[j]? = some u → (W.alloc (.cells #[.string c, .int .i64 m] e)).cell? ((⟨W.heap.size, 0, none⟩ : Addr).add j) = some u := by
  intro j u hj
  have hg := World.alloc_heap_new W (.cells #[.string c, .int .i64 m] e)
  rw [Addr.add_lit]
  match j, hj with
  | 0, hj => cases hj; simp only [World.cell?, hg]; rfl
  | 1, hj => cases hj; simp only [World.cell?, hg]; rfl
theorem one_two (c : ByteArray) (m : Int) : ∀ u ∈ ([.string c, .int .i64 m] : List Value), u.oneCell' = true := by
  intro u hu
  simp at hu
  rcases hu with rfl | rfl <;> rfl

set_option maxRecDepth 100000 in
set_option maxHeartbeats 2000000 in
theorem names_any (va : Value) (zs : List Nat) (most : Int) (w : World) (hr : Rd w va (nus .u8 zs)) (hb : ∀ c ∈ zs, c < 256) :
    Calls Try.prog 16 #[va, .int .i64 most] w fun e w' => ∃ x, e = .returned x ∧ w'.ownsRow w.heap.size 46 2 x (cutL (lys zs) most).length (lcells (cutL (lys zs) most)) ∧ Below w.heap.size w w' := by
  obtain ⟨i0, hi, hz0, hz1, hz2⟩ := info_parts (show _ from rec46)
  have CL := fun W (h : Rd W va (nus .u8 zs)) => lay_any va zs W h hb
  have hl4 := lys_len zs
  generalize lys zs = L at *
  refine (callsIn_wide (n := 3)).1 ?_
  refine callsIn_of_wp_marks Try.func16 rfl trivial ?_ rfl
  simp only [Try.ntmps16, List.size_toArray, List.length_cons, List.length_nil, Nat.reduceAdd, Nat.reduceSub, Array.replicate_succ, Array.replicate_zero, List.push_toArray, List.append_toArray, List.nil_append, List.cons_append]
  have hb3 : Below w.heap.size w ((w.alloc (.cells #[.int .i64 most] 3)).alloc (.cells #[.slice none 0 0] 34)) :=
    ((Below.refl _ w).alloc (Nat.le_refl _) _).alloc (by simp) _
  have x1 := (Boxed.new w 3 (.int .i64 most)).alloc (.cells #[.slice none 0 0] 34)
  have x2 := Boxed.new (w.alloc (.cells #[.int .i64 most] 3)) 34 (.slice none 0 0)
  simp only [World.size_alloc] at x2
  gi_wp2_with fail
  refine ⟨trivial, ?_⟩
  generalize hW : (w.alloc (.cells #[.int .i64 most] 3)).alloc (.cells #[.slice none 0 0] 34) = W at hb3 x1 x2 ⊢
  have hWs : W.heap.size = w.heap.size + 2 := by rw [← hW]; simp
  clear hW
  refine (callsIn_wide.2 (CL W (hr.below hb3))).mono ?_
  rintro e W0 ⟨Be, ad, cp, rfl, h1, h3, h4, h5⟩
  have hq := eql_fn8
  gi_wp2_with fail
  have hW0 := h5.size
  have hBs := h3.lt
  have hwW0 : Below w.heap.size w W0 := hb3.trans (h5.mono (by omega))
  have g0 : Got8 w.heap.size W0.heap.size most w [] W0 :=
    ⟨⟨_, (h5.block _ (by omega)).trans x2, World.ownsRow_nil _ _ _ _, trivial⟩, (h5.block _ (by omega)).trans x1, fun h => by simpa using h, Nat.le_refl _, hwW0⟩
  refine wpIn_rangeFunc_ownG rfl (by omega) (gf := 49) (lb := #[.pointer (some ⟨Be, 0, none⟩)]) rfl trivial (enters_of Try.func49 (by kernel_rfl) rfl)
    (it8_stops 2 (by omega) Be W.heap.size W0.heap.size L ad cp hl4 h1 hBs W0 (Nat.le_refl _) h3 h4 (fun gg e => by subst e; exact (h4.lt gg rfl).2)) mid_t (mid_b (Nat.le_refl _)) (Below.refl _ _) (fun _ => rfl)
    (Got8 w.heap.size W0.heap.size most w)
    (fun c l W' => c = .exit 0 ∧ ∃ pre x, l = pre ++ [x] ∧ Got8 w.heap.size W0.heap.size most w pre W' ∧ (pre.length : Int) = most)
    (Got8.own _ _ _ _ _ (Nat.le_refl _) (by omega))
    (fun c s A B row hs hg hr => by
      obtain ⟨e1, pre, x, e2, e3, e4⟩ := hs
      exact ⟨e1, pre, x, e2, Got8.own _ _ W0.heap.size _ _ (Nat.le_refl _) (by omega) pre A B row e3 hg hr, e4⟩)
    g0
    (fun x => { tmps := #[va, .int .i64 most, undef, .pointer (some ⟨w.heap.size, 0, none⟩), .slice none 0 0, .pointer (some ⟨w.heap.size + 1, 0, none⟩), .func (.func 49) #[] #[.pointer (some ⟨Be, 0, none⟩)], .string (nmS x.1), .int .i64 (x.2 : Int), va, .func (.func 49) #[] #[.pointer (some ⟨Be, 0, none⟩)], .func (.func 49) #[] #[.pointer (some ⟨Be, 0, none⟩)], .bool false, .func (.func 49) #[] #[.pointer (some ⟨Be, 0, none⟩)], .string (nmS x.1), .int .i64 (x.2 : Int), undef, undef, undef, undef, undef, undef, undef, undef, undef, undef, undef], defers := [] }) ?assign ?body ?done ?stop
  case assign =>
    intro l x W' K hK
    gi_wp2
    exact hK
  case body =>
    rintro l pre x W' ⟨⟨v1, bx1, r1, _⟩, bxm, hle, hhi, hB⟩ hlt
    have hpl : pre.length ≤ 4 := by omega
    have HRest := Lib.hid (And.intro hr (And.intro hb (And.intro hb3 (And.intro x1 x2))))
    have HMore := Lib.hid (And.intro h1 (And.intro h3 (And.intro h4 (And.intro h5 (And.intro hwW0 hBs)))))
    clear CL hr hb hb3 x1 x2 h1 h3 h4 h5 hBs hwW0 g0 hq
    obtain ⟨a1, k1, rfl⟩ := row_shape r1
    have c1 := bx1.cell
    have cm := bxm.cell
    by_cases hm : (pre.length : Int) = most
    · have hmq : (((pre.length : Nat) : Int) == most) = true := by rw [beq_iff_eq]; exact hm
      have HM := Lib.hid hm
      have HLt := Lib.hid hlt
      have HLe := Lib.hid hle
      clear hm hlt hle
      gi_wp2
      refine ⟨KeepsFrom.refl _ _, rfl, pre, x, rfl, ⟨⟨_, bx1, r1, trivial⟩, bxm, HLe.out, hhi, hB⟩, HM.out⟩
    · have hmq : (((pre.length : Nat) : Int) == most) = false := by rw [beq_eq_false_iff_ne]; exact hm
      have HM := Lib.hid hm
      have HLt := Lib.hid hlt
      have HLe := Lib.hid hle
      clear hm hlt hle
      gi_wp2_with (gi_at_builtin; refine wpListIn_append_own _ rfl _ _ 34 rfl W0.heap.size 46 i0 _ 2 24 Try.underlying34 hi hz0 hz1 hz2 rfl (by decide) _ _ _ rfl (r1.alloc _) ⟨W'.heap.size, 0, none⟩ 1 1 [.string (nmS x.1), .int .i64 (x.2 : Int)] rfl rfl (cell_two_new _ _ _ _) (one_two _ _) (by unfold maxLen; omega) (by omega) (by rw [World.size_alloc]; omega) ?_; intro v' w1 hown' hgrow _; obtain ⟨g', cap', rfl⟩ := ownsRow_succ hown'; obtain ⟨hv1, hv2, hr2, hk2, hm2, hb2⟩ := box_app bx1 (by decide) r1 hhi (Nat.le_succ _) (show w.heap.size + 1 < W.heap.size by omega) hW0 hown' hgrow; have hc1 := hv1.cell; have hf1 := hv1.frozen)
      have hmo := HM.out
      have hlo := HLe.out
      refine ⟨hk2.from _, hm2, ⟨⟨_, hv2, by rw [List.length_append, lcells_append]; exact hr2, trivial⟩, ((bxm.alloc _).kept hgrow (bxm.not_row (by decide) r1)).other (by omega) _, fun h => ?_, Nat.le_trans hhi hk2.size, hB.trans (hb2.mono (Nat.le_refl _))⟩⟩
      have := hlo h
      rw [List.length_append, List.length_singleton]; push_cast; omega
  case done =>
    rintro D ys Wn hD hys ⟨⟨v1, bx1, r1, _⟩, bxm, hle, hhi, hB⟩ hK
    have c1 := bx1.cell
    have HWD : Hid (cutL L most = ys) := by subst hys; exact cutL_done _ _ hle
    have HR1 := Lib.hid r1
    clear hys r1 hle CL hr hb hb3 x1 x2 h1 h3 h4 h5 hBs hwW0 g0 hq
    gi_wp2
    refine ⟨by simp, .inl ⟨_, _, rfl, run_takeDeferred hK, ?_⟩⟩
    refine ⟨_, results_tmp rfl _ _ _, v1, rfl, ?_, hB.trans (belowK_b (w := w) (Nat.le_refl _) Wn D _ _ (by omega) hK rfl rfl)⟩
    rw [HWD.out]; exact own_low2 (by omega) (ownsRow_putObj HR1.out _ hK rfl)
  case stop =>
    rintro D c l Wn hD ⟨k, hk, hl⟩ ⟨rfl, pre, x, e, ⟨⟨v1, bx1, r1, _⟩, bxm, hle, hhi, hB⟩, hm⟩ hK
    have c1 := bx1.cell
    have HWD : Hid (cutL L most = pre) := cutL_stop L pre most x k (by rw [← e, hl]) hm
    have HR1 := Lib.hid r1
    clear hl e hm r1 hle CL hr hb hb3 x1 x2 h1 h3 h4 h5 hBs hwW0 g0 hq
    gi_wp2
    refine ⟨by simp, .inl ⟨_, _, rfl, run_takeDeferred hK, ?_⟩⟩
    refine ⟨_, results_tmp rfl _ _ _, v1, rfl, ?_, hB.trans (belowK_b (w := w) (Nat.le_refl _) Wn D _ _ (by omega) hK rfl rfl)⟩
    rw [HWD.out]; exact own_low2 (by omega) (ownsRow_putObj HR1.out _ hK rfl)
end Go.Proofs.Ytopfbgoiehlhbaa

/- Records of a text and a number compared; bazaarlaw8.same of two rows that are one. -/
namespace Go.Proofs.Ytopfbgoiehlhbaa
open Go.RowKit

theorem nm_wf : ∀ k : Fin 6, (nmS k.1).size ≤ maxLen := by decide
theorem nm_size (k : Nat) : (nmS k).size ≤ maxLen := by
  by_cases h : k < 6
  · exact nm_wf ⟨k, h⟩
  · have : nmS k = nmS 5 := by unfold nmS; rw [if_neg (by omega), if_neg (by omega), if_neg (by omega), if_neg (by omega), if_neg (by omega)]; rfl
    rw [this]; exact nm_wf ⟨5, by omega⟩
theorem int_wf (n : Nat) (h : n < 9223372036854775808) : (Lit.int .i64 (n : Int)).wf = true := by
  simp [Lit.wf, IntKind.min, IntKind.max, IntKind.signed, IntKind.bits]
  omega
theorem key_int (d n : Nat) (h : n < 9223372036854775808) : Try.prog.keyLits (d + 1) 3 [.int .i64 (n : Int)] = some [.int .i64 (n : Int)] := by
  unfold Program.keyLits
  rw [Try.underlying3]
  simp [int_wf n h]
theorem key_str (d k : Nat) : Try.prog.keyLits (d + 1) 9 [.string (nmS k)] = some [.string (nmS k).data.toList] := by
  unfold Program.keyLits
  rw [Try.underlying9]
  simp [nm_size k]
theorem lits_rec (k n : Nat) (h : n < 9223372036854775808) : Try.prog.keyLits 2 46 [.string (nmS k), .int .i64 (n : Int)] = some [.string (nmS k).data.toList, .int .i64 (n : Int)] := by
  unfold Program.keyLits
  rw [Try.underlying46]
  have hc : Try.prog.cellsOf 9 = 1 := by kernel_rfl
  have hc2 : Try.prog.cellsOf 3 = 1 := by kernel_rfl
  have hc3 : Try.prog.cellsOf 46 = 2 := by kernel_rfl
  simp [hc, hc2, hc3, key_str 0 k, key_int 0 n h]
theorem eq_rec (k n : Nat) (h : n < 9223372036854775808) (w : World) : (Op.equalIn 10000 46 (.agg #[.string (nmS k), .int .i64 (n : Int)]) (.agg #[.string (nmS k), .int .i64 (n : Int)])).run Try.prog w = .ok true w := by
  have hf : (Value.agg #[.string (nmS k), .int .i64 (n : Int)]).formed Try.prog 46 = true := by
    have hc3 : Try.prog.cellsOf 46 = 2 := by kernel_rfl
    simp [Value.formed, Try.underlying46, hc3]
  obtain ⟨r, hr, he⟩ := run_equalIn_deep (P := Try.prog) 9998 2 46 (by kernel_rfl) w 2 2 _ _ _ _ hf hf (lits_rec k n h) (lits_rec k n h)
  have e : r = true := he.2 rfl
  subst e
  exact hr
theorem neq_rec (k n : Nat) (h : n < 9223372036854775808) (w : World) : (binOp .neq 46 (.agg #[.string (nmS k), .int .i64 (n : Int)]) (.agg #[.string (nmS k), .int .i64 (n : Int)])).run Try.prog w = .ok (.bool false) w := by
  have := eq_rec k n h w
  simp [binOp, go_sem, Op.equal, Op.maxDepth, this]

/-- A slice that reads as a row of layers. -/
def RL (w : World) (x : Value) (L : List (Nat × Nat)) : Prop :=
  ∃ a c, x = .slice a L.length c ∧ L.length ≤ c ∧ (L = [] ∨ ∃ g, a = some ⟨g, 0, none⟩ ∧ g < w.heap.size ∧ ∀ j u, (lcells L)[j]? = some u → w.cell? ⟨g, j, none⟩ = some u)
theorem RL.own {w : World} {base : Nat} {x : Value} {L : List (Nat × Nat)} {e : TypeId} (h : w.ownsRow base e 2 x L.length (lcells L)) : RL w x L := by
  rcases h.2 with ⟨rfl, h0⟩ | ⟨g, cap, cur, rfl, hb, hg, hc, hm, -, -⟩
  · exact ⟨none, 0, by rw [h0], by omega, .inl (List.eq_nil_of_length_eq_zero h0)⟩
  · exact ⟨_, _, rfl, hc, .inr ⟨g, rfl, (Array.getElem?_eq_some_iff.1 hg).1, fun j u hj => own_cells h j u hj⟩⟩
theorem RL.below {w w' : World} {x : Value} {L : List (Nat × Nat)} (h : RL w x L) (hb : Below w.heap.size w w') : RL w' x L := by
  obtain ⟨a, c, e, h1, h2⟩ := h
  refine ⟨a, c, e, h1, h2.imp id ?_⟩
  rintro ⟨g, rfl, hg, hc⟩
  exact ⟨g, rfl, Nat.lt_of_lt_of_le hg hb.size, fun j u hj => (World.cell?_of_block (a := ⟨g, j, none⟩) (hb.block g hg)).trans (hc j u hj)⟩

set_option maxRecDepth 100000 in
set_option maxHeartbeats 1000000 in
theorem same_any (x y : Value) (L : List (Nat × Nat)) (w : World) (hx : RL w x L) (hy : RL w y L) (hl : L.length ≤ 1000) (hL : ∀ p ∈ L, p.2 < 9223372036854775808) :
    Calls Try.prog 15 #[x, y] w fun e w' => e = .returned (.bool true) ∧ Below w.heap.size w w' := by
  obtain ⟨a1, c1, rfl, h1, r1⟩ := hx
  obtain ⟨a2, c2, rfl, h2, r2⟩ := hy
  obtain ⟨n, hn⟩ : ∃ n, n = L.length := ⟨_, rfl⟩
  rw [← hn] at h1 h2 hl ⊢
  have HN := Lib.hid hn
  clear hn
  have hnn : ((n : Int) != (n : Int)) = false := by simp
  go_enter Try.func15, Try.ntmps15
  go_wp2
  clear hnn
  go_loopw [5] (fun i wr => ∃ j k : Nat, j ≤ n ∧ i = .int .i64 j ∧ wr = w.drewN k) (fun i _ => n - (intOf i).toNat)
  case atStart => exact ⟨0, 0, Nat.zero_le _, rfl, rfl⟩
  case round =>
    obtain ⟨j, k, hj, rfl, rfl⟩ := hrel
    by_cases hlt : j < n
    · obtain ⟨g1, rfl, -, q1⟩ := r1.resolve_left (fun e => by have hn := HN.out; rw [e] at hn; simp at hn; omega)
      obtain ⟨g2, rfl, -, q2⟩ := r2.resolve_left (fun e => by have hn := HN.out; rw [e] at hn; simp at hn; omega)
      obtain ⟨u0, u1⟩ := lcells_get L j (by rw [← HN.out]; exact hlt)
      have p0 := q1 _ _ u0
      have p1 := q1 _ _ u1
      have p2 := q2 _ _ u0
      have p3 := q2 _ _ u1
      have hm : L.getD j (0, 0) ∈ L := by
        rw [List.getD_eq_getElem?_getD, List.getElem?_eq_getElem (show j < L.length by rw [← HN.out]; exact hlt)]
        exact List.getElem_mem _
      have hv := hL _ hm
      generalize L.getD j (0, 0) = z at *
      have hq := fun W => neq_rec z.1 z.2 hv W
      clear u0 u1 q1 q2 hm hv
      clear r1 r2
      go_wp2
      go_quiet (fail)
      go_wp2
      go_roundw
      case rel => exact ⟨j + 1, _, by omega, by go_num, rfl⟩
      case measure => simp [intOf]; omega
    · obtain rfl : j = n := by omega
      clear hlt
      go_wp2
      go_ret
      exact ⟨rfl, below_drewN (Below.refl _ _) _⟩
end Go.Proofs.Ytopfbgoiehlhbaa

/- Views compared with themselves. -/
namespace Go.Proofs.Ytopfbgoiehlhbaa
open Go.RowKit

theorem u16_wf (n : Nat) (h : n < 65536) : (Lit.int .u16 (n : Int)).wf = true := by
  simp [Lit.wf, IntKind.min, IntKind.max, IntKind.signed, IntKind.bits]
  omega
theorem key_u16 (d n : Nat) (h : n < 65536) : Try.prog.keyLits (d + 1) 27 [.int .u16 (n : Int)] = some [.int .u16 (n : Int)] := by
  unfold Program.keyLits
  rw [Try.underlying27]
  simp [u16_wf n h]
theorem key_bool (d : Nat) (v : Bool) : Try.prog.keyLits (d + 1) 4 [.bool v] = some [.bool v] := by
  unfold Program.keyLits
  rw [Try.underlying4]
theorem lits26 (v : Bool) (bs : List Nat) (hl : bs.length = 16) (hb : ∀ c ∈ bs, c < 256) : ∃ l, Try.prog.keyLits 3 26 (cellsA v bs).toList = some l := by
  obtain ⟨b0, b1, b2, b3, b4, b5, b6, b7, b8, b9, b10, b11, b12, b13, b14, b15, rfl⟩ := list16 bs hl
  exact ⟨_, lits24 v b0 b1 b2 b3 b4 b5 b6 b7 b8 b9 b10 b11 b12 b13 b14 b15 hb⟩
theorem lits29 (p sp dp : Nat) (hp : p < 256) (h1 : sp < 65536) (h2 : dp < 65536) (S D : Array Value) (hS : S.size = 17) (hD : D.size = 17) (lS lD : List Lit) (eS : Try.prog.keyLits 3 26 S.toList = some lS) (eD : Try.prog.keyLits 3 26 D.toList = some lD) :
    Try.prog.keyLits 4 29 (kcells p S D sp dp).toList = some ([.int .u8 (p : Int)] ++ (lS ++ (lD ++ [.int .u16 (sp : Int), .int .u16 (dp : Int)]))) := by
  obtain ⟨x0, x1, x2, x3, x4, x5, x6, x7, x8, x9, x10, x11, x12, x13, x14, x15, x16, rfl⟩ := arr17 S hS
  obtain ⟨y0, y1, y2, y3, y4, y5, y6, y7, y8, y9, y10, y11, y12, y13, y14, y15, y16, rfl⟩ := arr17 D hD
  have eS : Try.prog.keyLits 3 26 [x0, x1, x2, x3, x4, x5, x6, x7, x8, x9, x10, x11, x12, x13, x14, x15, x16] = some lS := eS
  have eD : Try.prog.keyLits 3 26 [y0, y1, y2, y3, y4, y5, y6, y7, y8, y9, y10, y11, y12, y13, y14, y15, y16] = some lD := eD
  show Try.prog.keyLits 4 29 [.int .u8 (p : Int), x0, x1, x2, x3, x4, x5, x6, x7, x8, x9, x10, x11, x12, x13, x14, x15, x16, y0, y1, y2, y3, y4, y5, y6, y7, y8, y9, y10, y11, y12, y13, y14, y15, y16, .int .u16 (sp : Int), .int .u16 (dp : Int)] = _
  unfold Program.keyLits
  rw [Try.underlying29]
  have hc : Try.prog.cellsOf 5 = 1 := by kernel_rfl
  have hc2 : Try.prog.cellsOf 26 = 17 := by kernel_rfl
  have hc3 : Try.prog.cellsOf 27 = 1 := by kernel_rfl
  have hc4 : Try.prog.cellsOf 29 = 37 := by kernel_rfl
  simp [hc, hc2, hc3, hc4, eS, eD, key5 2 p hp, key_u16 2 sp h1, key_u16 2 dp h2]
theorem lits31 (six : Bool) (n s e f p sp dp : Nat) (hn : n < 9223372036854775808) (hs : s < 9223372036854775808) (he : e < 9223372036854775808) (hf : f < 256) (S D : Array Value) (hS : S.size = 17) (hD : D.size = 17) (lK : List Lit)
    (eK : Try.prog.keyLits 4 29 (kcells p S D sp dp).toList = some lK) :
    ∃ l, Try.prog.keyLits 5 31 (vcells six n s e (kcells p S D sp dp) f).toList = some l := by
  obtain ⟨x0, x1, x2, x3, x4, x5, x6, x7, x8, x9, x10, x11, x12, x13, x14, x15, x16, rfl⟩ := arr17 S hS
  obtain ⟨y0, y1, y2, y3, y4, y5, y6, y7, y8, y9, y10, y11, y12, y13, y14, y15, y16, rfl⟩ := arr17 D hD
  have eK : Try.prog.keyLits 4 29 [.int .u8 (p : Int), x0, x1, x2, x3, x4, x5, x6, x7, x8, x9, x10, x11, x12, x13, x14, x15, x16, y0, y1, y2, y3, y4, y5, y6, y7, y8, y9, y10, y11, y12, y13, y14, y15, y16, .int .u16 (sp : Int), .int .u16 (dp : Int)] = some lK := eK
  refine ⟨[.bool six, .int .i64 (n : Int), .int .i64 (s : Int), .int .i64 (e : Int)] ++ (lK ++ [.int .u8 (f : Int)]), ?_⟩
  show Try.prog.keyLits 5 31 [.bool six, .int .i64 (n : Int), .int .i64 (s : Int), .int .i64 (e : Int), .int .u8 (p : Int), x0, x1, x2, x3, x4, x5, x6, x7, x8, x9, x10, x11, x12, x13, x14, x15, x16, y0, y1, y2, y3, y4, y5, y6, y7, y8, y9, y10, y11, y12, y13, y14, y15, y16, .int .u16 (sp : Int), .int .u16 (dp : Int), .int .u8 (f : Int)] = _
  unfold Program.keyLits
  rw [Try.underlying31]
  have hc : Try.prog.cellsOf 5 = 1 := by kernel_rfl
  have hc2 : Try.prog.cellsOf 4 = 1 := by kernel_rfl
  have hc3 : Try.prog.cellsOf 3 = 1 := by kernel_rfl
  have hc4 : Try.prog.cellsOf 29 = 37 := by kernel_rfl
  have hc5 : Try.prog.cellsOf 31 = 42 := by kernel_rfl
  simp [hc, hc2, hc3, hc4, hc5, eK, key5 3 f hf, key_bool 3 six, key_int 3 n hn, key_int 3 s hs, key_int 3 e he]
theorem eq_of_lits31 (X : Array Value) (hX : X.size = 42) (h : ∃ l, Try.prog.keyLits 5 31 X.toList = some l) (w : World) : (Op.equalIn 10000 31 (.agg X) (.agg X)).run Try.prog w = .ok true w := by
  obtain ⟨l, hl⟩ := h
  have hf : (Value.agg X).formed Try.prog 31 = true := by
    have hc3 : Try.prog.cellsOf 31 = 42 := by kernel_rfl
    simp [Value.formed, Try.underlying31, hc3, hX]
  obtain ⟨r, hr, he⟩ := run_equalIn_deep (P := Try.prog) 9995 5 31 (by kernel_rfl) w 5 5 _ _ _ _ hf hf hl hl
  have e : r = true := he.2 rfl
  subst e
  exact hr
theorem eq_of_lits29 (X : Array Value) (hX : X.size = 37) (h : ∃ l, Try.prog.keyLits 4 29 X.toList = some l) (w : World) : (Op.equalIn 10000 29 (.agg X) (.agg X)).run Try.prog w = .ok true w := by
  obtain ⟨l, hl⟩ := h
  have hf : (Value.agg X).formed Try.prog 29 = true := by
    have hc3 : Try.prog.cellsOf 29 = 37 := by kernel_rfl
    simp [Value.formed, Try.underlying29, hc3, hX]
  obtain ⟨r, hr, he⟩ := run_equalIn_deep (P := Try.prog) 9996 4 29 (by kernel_rfl) w 4 4 _ _ _ _ hf hf hl hl
  have e : r = true := he.2 rfl
  subst e
  exact hr
theorem v0_lits : ∃ l, Try.prog.keyLits 5 31 v0.toList = some l := by
  obtain ⟨lS, eS⟩ := lits26 false (List.replicate 16 0) rfl (by decide)
  exact lits31 false 0 0 0 0 0 0 0 (by omega) (by omega) (by omega) (by omega) _ _ rfl rfl _ (lits29 0 0 0 (by omega) (by omega) (by omega) _ _ rfl rfl lS lS eS eS)
theorem vw_lits (zs : List Nat) (hb : ∀ c ∈ zs, c < 256) (hz : zs.length < 9223372036854775808) : ∃ l, Try.prog.keyLits 5 31 (vw zs).toList = some l := by
  by_cases h : rr zs = 0
  · obtain ⟨h1, h2, h3⟩ := rr_yes zs h
    have HDD := fhd_yes _ _ h2
    have hT : ∀ c ∈ pkt zs, c < 256 := fun c hc => hb c (List.mem_of_mem_drop hc)
    have hP : ∀ c ∈ sgm zs, c < 256 := fun c hc => hb c (List.mem_of_mem_drop (List.mem_of_mem_take hc))
    have e : vw zs = vcells (sixF zs) (net zs).1 ((net zs).1 + fS (sixF zs) (pkt zs)) ((net zs).1 + fL (sixF zs) (pkt zs)) (keyF zs) (fl (fP (sixF zs) (pkt zs)) (sgm zs)) := by unfold vw; rw [if_pos h]
    rw [e]
    unfold keyF
    have hA : (lA (sixF zs) (pkt zs)).length = 16 := lA_len _ _ h2
    have hB : (lB (sixF zs) (pkt zs)).length = 16 := lB_len _ _ h2
    obtain ⟨lS, eS⟩ := lits26 (sixF zs) _ hA (lA_lt _ _ hT)
    obtain ⟨lD, eD⟩ := lits26 (sixF zs) _ hB (lB_lt _ _ hT)
    have e1 : fA (sixF zs) (pkt zs) = cellsA (sixF zs) (lA (sixF zs) (pkt zs)) := by have := lA_eq (sixF zs) (pkt zs); unfold adr at this; exact Value.agg.inj this
    have e2 : fB (sixF zs) (pkt zs) = cellsA (sixF zs) (lB (sixF zs) (pkt zs)) := by have := lB_eq (sixF zs) (pkt zs); unfold adr at this; exact Value.agg.inj this
    have hlen := HDD.high
    have hmid := HDD.mid
    have hl : (pkt zs).length ≤ zs.length := by unfold pkt; rw [List.length_drop]; omega
    have hnet := (net_ok zs h1).2.1
    have hl2 : (pkt zs).length = zs.length - (net zs).1 := by unfold pkt; rw [List.length_drop]
    have hpr := HDD.pr
    rw [e1, e2]
    refine lits31 _ _ _ _ _ _ _ _ (by omega) (by omega) (by omega) ?_ _ _ (by rw [cellsA_size, hA]) (by rw [cellsA_size, hB]) _ (lits29 _ _ _ (by omega) (u2_lt _ 0 hP) (u2_lt _ 2 hP) _ _ (by rw [cellsA_size, hA]) (by rw [cellsA_size, hB]) lS lD eS eD)
    unfold fl; split
    · exact getD_lt _ hP 13
    · omega
  · have e : vw zs = v0 := by unfold vw; rw [if_neg h]
    rw [e]; exact v0_lits
theorem eq_vw (zs : List Nat) (hb : ∀ c ∈ zs, c < 256) (hz : zs.length < 9223372036854775808) (w : World) : (Op.equalIn 10000 31 (.agg (vw zs)) (.agg (vw zs))).run Try.prog w = .ok true w :=
  eq_of_lits31 _ (vw_size zs) (vw_lits zs hb hz) w
theorem eq_v0 (w : World) : (Op.equalIn 10000 31 (.agg v0) (.agg v0)).run Try.prog w = .ok true w := eq_of_lits31 _ v0_size v0_lits w
theorem eq_key (p sp dp : Nat) (v : Bool) (S D : List Nat) (hp : p < 256) (h1 : sp < 65536) (h2 : dp < 65536) (hS : S.length = 16) (hD : D.length = 16) (bS : ∀ c ∈ S, c < 256) (bD : ∀ c ∈ D, c < 256) (w : World) :
    (Op.equalIn 10000 29 (.agg (kcells p (cellsA v S) (cellsA v D) sp dp)) (.agg (kcells p (cellsA v S) (cellsA v D) sp dp))).run Try.prog w = .ok true w := by
  obtain ⟨lS, eS⟩ := lits26 v S hS bS
  obtain ⟨lD, eD⟩ := lits26 v D hD bD
  exact eq_of_lits29 _ (kcells_size _ _ _ _ _ (by rw [cellsA_size, hS]) (by rw [cellsA_size, hD])) ⟨_, lits29 p sp dp hp h1 h2 _ _ (by rw [cellsA_size, hS]) (by rw [cellsA_size, hD]) lS lD eS eD⟩ w
end Go.Proofs.Ytopfbgoiehlhbaa

/- bazaarlaw8.awake. -/
namespace Go.Proofs.Ytopfbgoiehlhbaa
open Go.RowKit

/-- awake's frame. -/
def B8 : List Nat := fB8 5 true false 1 [97, 98] true false (List.replicate 3 0)
theorem B8_told : Told8 true (sV 5) dV 6 1005 80 1 [97, 98] true false (List.replicate 3 0) B8 := fB8_told 5 true false 1 [97, 98] true false _ (by decide)
theorem B8_len : B8.length = 83 := B8_told.len
theorem B8_lt : ∀ c ∈ B8, c < 256 := fB8_lt 5 true false 1 [97, 98] true false 3 (by omega) (by decide)
theorem B8_vw : vw B8 = vcells true 18 58 80 (flow 5 true false) 1 := B8_told.vw
theorem B8_ly : lys B8 = [(0, 0), (1, 14), (3, 18), (4, 58)] := B8_told.ly
theorem B8_cut : rr (B8.take 60) = 1 := (cut8 true (sV 5) dV 6 1005 80 1 [97, 98] true false (List.replicate 3 0) (.inl rfl) rfl rfl (by decide) 60 (by decide)).1
theorem zero_getD (m i : Nat) : (List.replicate m 0).getD i 0 = 0 := by
  rw [List.getD_eq_getElem?_getD, List.getElem?_replicate]; split <;> rfl
theorem zero_net (m : Nat) (h : 18 ≤ m) : net (List.replicate m 0) = (0, 0, 2) := by
  have h12 : u2 (List.replicate m 0) 12 = 0 := by unfold u2; rw [zero_getD, zero_getD]
  rw [net_bare _ (by rw [List.length_replicate]; omega) (by rw [h12]; decide), h12]
  rfl

theorem nus_zeros (m : Nat) : nus .u8 (List.replicate m 0) = List.replicate m (.int .u8 0) := by simp [nus]

set_option maxRecDepth 100000 in
set_option maxHeartbeats 4000000 in
theorem awake_any (w : World) : Calls Try.prog 8 #[] w fun e w' => e = .returned (.bool true) ∧ Below w.heap.size w w' := by
  have CK := Lib.hid (fun W => flow_any 5 true false W)
  rw [show ((5 : Int) % 1073741824).toNat = 5 from by decide] at CK
  have CB := Lib.hid (show ∀ W z, Rd W (.slice (some z) 2 2) (nus .u8 [97, 98]) → Calls Try.prog 18 #[.agg (flow 5 true false), .int .u8 1, .slice (some z) 2 2, .bool true, .bool false, .int .i64 3] W fun e w' => ∃ g c, e = .returned (.slice (some ⟨g, 0, none⟩) 83 c) ∧ Rd w' (.slice (some ⟨g, 0, none⟩) 83 c) (nus .u8 B8) ∧ Below W.heap.size W w' from fun W z h => by
    refine (fB8_any 5 true false 1 3 (some z) 2 2 [97, 98] true false W h rfl (by intro e; cases e) (by decide) (by omega) (by omega) (by omega)).mono ?_
    rintro e w' ⟨g, c, rfl, ho, hB⟩
    rw [show fB8 5 true false 1 [97, 98] true false (List.replicate 3 0) = B8 from rfl, B8_len] at ho
    exact ⟨g, c, by rw [show fB8 5 true false 1 [97, 98] true false (List.replicate 3 0) = B8 from rfl, B8_len], Rd.own ho, hB⟩)
  have CR := Lib.hid (fun W z (h : Rd W z (nus .u8 B8)) => fread_any z B8 W h B8_lt (.inl (by rw [B8_len]; omega)))
  rw [B8_told.rr] at CR
  have CC := Lib.hid (fun W z (h : Rd W z (nus .u8 (B8.take 60))) => fread_any z (B8.take 60) W h (fun c hc => B8_lt c (List.mem_of_mem_take hc)) (.inl (by rw [List.length_take, B8_len]; omega)))
  rw [B8_cut, show vw (B8.take 60) = v0 from by unfold vw; rw [B8_cut]; rfl] at CC
  obtain ⟨m, hm⟩ : ∃ m, m = 65536 := ⟨_, rfl⟩
  have CZ := Lib.hid (fun W z (h : Rd W z (nus .u8 (List.replicate m 0))) => fread_any z (List.replicate m 0) W h (fun c hc => by rw [List.eq_of_mem_replicate hc]; omega) (.inr (by rw [zero_net _ (by omega)]; decide)))
  have hz2 : rr (List.replicate m 0) = 2 := by unfold rr; rw [zero_net _ (by omega)]; rfl
  rw [hz2, show vw (List.replicate m 0) = v0 from by unfold vw; rw [hz2]; rfl] at CZ
  have CN := Lib.hid (fun W z (h : Rd W z (nus .u8 B8)) => names_any z B8 (-1) W h B8_lt)
  rw [show cutL (lys B8) (-1) = [(0, 0), (1, 14), (3, 18), (4, 58)] from by unfold cutL; rw [if_neg (by omega)]; exact B8_ly] at CN
  have CG := Lib.hid (fun W z (h : Rd W z (nus .u8 B8)) => fgood_any z B8 W h B8_lt (by rw [B8_len]; omega))
  rw [B8_told.gf] at CG
  have QK := fun W => eq_key 6 1005 80 true (sV 5) dV (by omega) (by omega) (by omega) rfl rfl (sV_lt 5) dV_lt W
  have QK := fun W => (show (Op.equalIn 10000 29 (.agg (flow 5 true false)) (.agg (flow 5 true false))).run Try.prog W = .ok true W from QK W)
  have QN := fun W => eq_rec 4 58 (by omega) W
  have QN := fun W => (show (Op.equalIn 10000 46 (.agg #[.string { data := #[116, 99, 112] }, .int .i64 58]) (.agg #[.string { data := #[116, 99, 112] }, .int .i64 58])).run Try.prog W = .ok true W from QN W)
  have zk := flow_size 5 true false
  have Ak := Lib.hid (flow_all 5 true false)
  have hvw := B8_vw
  have zv := vw_size B8
  have Av := Lib.hid (vw_all B8)
  have PK := Lib.hid (show ((vw B8).toList.drop 4).take (flow 5 true false).toList.length = (flow 5 true false).toList from by rw [hvw]; simp [vcells])
  have v0' := Lib.hid (show (vw B8)[0]? = some (.bool true) from by rw [hvw]; rfl)
  have v1' := Lib.hid (show (vw B8)[1]? = some (.int .i64 18) from by rw [hvw]; rfl)
  have v2' := Lib.hid (show (vw B8)[2]? = some (.int .i64 58) from by rw [hvw]; rfl)
  have v3' := Lib.hid (show (vw B8)[3]? = some (.int .i64 80) from by rw [hvw]; rfl)
  have v5' := Lib.hid (show (vw B8)[41]? = some (.int .u8 1) from by rw [hvw]; rfl)
  have LB := Lib.hid B8_len
  have HM := Lib.hid hm
  clear hm
  generalize flow 5 true false = kc at *
  generalize vw B8 = VA at *
  clear hvw hz2
  have Zk := Lib.hid (i43.trans (congrArg some zk.symm))
  have Yk : Hid (kc.size = Array.size (#[Value.int .u8 0, .bool false, .int .u8 0, .int .u8 0, .int .u8 0, .int .u8 0, .int .u8 0, .int .u8 0, .int .u8 0, .int .u8 0, .int .u8 0, .int .u8 0, .int .u8 0, .int .u8 0, .int .u8 0, .int .u8 0, .int .u8 0, .int .u8 0, .bool false, .int .u8 0, .int .u8 0, .int .u8 0, .int .u8 0, .int .u8 0, .int .u8 0, .int .u8 0, .int .u8 0, .int .u8 0, .int .u8 0, .int .u8 0, .int .u8 0, .int .u8 0, .int .u8 0, .int .u8 0, .int .u8 0, .int .u16 0, .int .u16 0] : Array Value)) := zk
  have IK := Lib.hid (i43.trans (congrArg some (show (37 : Nat) = kc.toList.length by simp [zk])))
  have Zv := Lib.hid (i72.trans (congrArg some zv.symm))
  have Yv : Hid (VA.size = Array.size (#[Value.bool false, .int .i64 0, .int .i64 0, .int .i64 0, .int .u8 0, .bool false, .int .u8 0, .int .u8 0, .int .u8 0, .int .u8 0, .int .u8 0, .int .u8 0, .int .u8 0, .int .u8 0, .int .u8 0, .int .u8 0, .int .u8 0, .int .u8 0, .int .u8 0, .int .u8 0, .int .u8 0, .int .u8 0, .bool false, .int .u8 0, .int .u8 0, .int .u8 0, .int .u8 0, .int .u8 0, .int .u8 0, .int .u8 0, .int .u8 0, .int .u8 0, .int .u8 0, .int .u8 0, .int .u8 0, .int .u8 0, .int .u8 0, .int .u8 0, .int .u8 0, .int .u16 0, .int .u16 0, .int .u8 0] : Array Value)) := zv
  have Y0 : Hid (v0.size = Array.size (#[Value.bool false, .int .i64 0, .int .i64 0, .int .i64 0, .int .u8 0, .bool false, .int .u8 0, .int .u8 0, .int .u8 0, .int .u8 0, .int .u8 0, .int .u8 0, .int .u8 0, .int .u8 0, .int .u8 0, .int .u8 0, .int .u8 0, .int .u8 0, .int .u8 0, .int .u8 0, .int .u8 0, .int .u8 0, .bool false, .int .u8 0, .int .u8 0, .int .u8 0, .int .u8 0, .int .u8 0, .int .u8 0, .int .u8 0, .int .u8 0, .int .u8 0, .int .u8 0, .int .u8 0, .int .u8 0, .int .u8 0, .int .u8 0, .int .u8 0, .int .u8 0, .int .u16 0, .int .u16 0, .int .u8 0] : Array Value)) := v0_size
  have Z0 := Lib.hid (i72.trans (congrArg some v0_size.symm))
  have A0 := Lib.hid v0_all
  clear zk zv
  have kcv := fun (w : World) (C : Array Value) (n c : Nat) => Lib.run_convert_bytes_const (P := Try.prog) w 22 5 C n c Try.underlying22 Try.underlying5
  have K := Lib.hid (Below.refl w.heap.size w)
  go_enter Try.func8, Try.ntmps8
  go_wp2_with fail
  refine (CK.out _).mono ?_
  rintro e V1 ⟨rfl, hy⟩
  replace K := Lib.hid (K.out.trans (hy.mono K.out.size))
  clear hy
  go_wp2_with (((with_reducible refine wpList_blk_store (op := ⟨none, .store 29 (.tmp 1) (.tmp 10), _, _, _, _⟩) ?sg1 29 (.tmp 1) (.tmp 10) ?so1 (V1.heap.size) kc ?sx1 ?sy1 (Blk.new V1 29 #[Value.int .u8 0, .bool false, .int .u8 0, .int .u8 0, .int .u8 0, .int .u8 0, .int .u8 0, .int .u8 0, .int .u8 0, .int .u8 0, .int .u8 0, .int .u8 0, .int .u8 0, .int .u8 0, .int .u8 0, .int .u8 0, .int .u8 0, .int .u8 0, .bool false, .int .u8 0, .int .u8 0, .int .u8 0, .int .u8 0, .int .u8 0, .int .u8 0, .int .u8 0, .int .u8 0, .int .u8 0, .int .u8 0, .int .u8 0, .int .u8 0, .int .u8 0, .int .u8 0, .int .u8 0, .int .u8 0, .int .u16 0, .int .u16 0]) Yk.out Zk.out Ak.out ?_); (case sg1 => rfl); (case so1 => rfl); (case sx1 => rfl); (case sy1 => rfl)))
  intro V2 hA hF hB
  have hy := ((Below.refl V1.heap.size V1).alloc (Nat.le_refl _) (.cells #[Value.int .u8 0, .bool false, .int .u8 0, .int .u8 0, .int .u8 0, .int .u8 0, .int .u8 0, .int .u8 0, .int .u8 0, .int .u8 0, .int .u8 0, .int .u8 0, .int .u8 0, .int .u8 0, .int .u8 0, .int .u8 0, .int .u8 0, .int .u8 0, .bool false, .int .u8 0, .int .u8 0, .int .u8 0, .int .u8 0, .int .u8 0, .int .u8 0, .int .u8 0, .int .u8 0, .int .u8 0, .int .u8 0, .int .u8 0, .int .u8 0, .int .u8 0, .int .u8 0, .int .u8 0, .int .u8 0, .int .u16 0, .int .u16 0] 29)).trans (hB _ (Nat.le_refl _))
  replace K := Lib.hid (K.out.trans (hy.mono K.out.size))
  have NK := Lib.hid hA
  clear hA hF hB hy
  have hal := (Below.refl V2.heap.size V2).alloc (Nat.le_refl _) (.cells #[Value.int .u8 97, .int .u8 98] 5 (2, 2 + 1))
  have RL := Lib.hid (show Rd (V2.alloc (.cells #[Value.int .u8 97, .int .u8 98] 5 (2, 2 + 1))) (.slice (some ⟨V2.heap.size, 0, none⟩) 2 2) (nus .u8 [97, 98]) from rd_lit V2 .u8 5 [97, 98] 2 (2, 3) rfl (by simp [maxLen]))
  have L2 : (loadVar 29 ⟨V1.heap.size, 0, none⟩).run Try.prog V2 = .ok (.agg kc) V2 := run_blk_load (P := Try.prog) 29 (V1.heap.size) _ NK.out Try.underlying29 rfl Zk.out
  replace L2 := Lib.hid L2
  go_wp2_with (((with_reducible refine wpList_load_want (op := ⟨some 11, .load 29 (.tmp 1), _, _, _, _⟩) ?wg2 29 (.tmp 1) ?wo2 ⟨V1.heap.size, 0, none⟩ ?wx2 (.agg kc) L2.out ?_); (case wg2 => rfl); (case wo2 => rfl); (case wx2 => rfl)))
  clear L2
  replace K := Lib.hid (K.out.trans (hal.mono K.out.size))
  replace NK := Lib.hid (NK.out.below hal NK.out.lt)
  clear hal kcv
  refine (CB.out _ _ RL.out).mono ?_
  rintro e V3 ⟨gb, cb, rfl, rb, hy⟩
  replace K := Lib.hid (K.out.trans (hy.mono K.out.size))
  replace NK := Lib.hid (NK.out.below hy NK.out.lt)
  have R0 := Lib.hid rb
  have RC := Lib.hid (rb.front 60 (by rw [LB.out]; omega))
  have KB := Lib.hid (Below.refl V3.heap.size V3)
  have h60 : (60 : Int) ≤ (cb : Int) := by
    obtain ⟨_, _, e1, h1, -, -⟩ := rb
    simp only [Value.slice.injEq] at e1
    obtain ⟨-, e2, rfl⟩ := e1
    rw [nus_length, LB.out] at h1
    omega
  clear rb hy RL CB CK
  go_wp2_with fail
  refine (CR.out _ _ (R0.out.below KB.out)).mono ?_
  rintro e V4 ⟨rfl, hy⟩
  replace K := Lib.hid (K.out.trans (hy.mono K.out.size))
  replace NK := Lib.hid (NK.out.below hy NK.out.lt)
  replace KB := Lib.hid (KB.out.trans (hy.mono KB.out.size))
  clear hy
  go_wp2_with (((with_reducible refine wpList_blk_store (op := ⟨none, .store 31 (.tmp 3) (.tmp 18), _, _, _, _⟩) ?sg3 31 (.tmp 3) (.tmp 18) ?so3 (V4.heap.size) VA ?sx3 ?sy3 (Blk.new V4 31 #[Value.bool false, .int .i64 0, .int .i64 0, .int .i64 0, .int .u8 0, .bool false, .int .u8 0, .int .u8 0, .int .u8 0, .int .u8 0, .int .u8 0, .int .u8 0, .int .u8 0, .int .u8 0, .int .u8 0, .int .u8 0, .int .u8 0, .int .u8 0, .int .u8 0, .int .u8 0, .int .u8 0, .int .u8 0, .bool false, .int .u8 0, .int .u8 0, .int .u8 0, .int .u8 0, .int .u8 0, .int .u8 0, .int .u8 0, .int .u8 0, .int .u8 0, .int .u8 0, .int .u8 0, .int .u8 0, .int .u8 0, .int .u8 0, .int .u8 0, .int .u8 0, .int .u16 0, .int .u16 0, .int .u8 0]) Yv.out Zv.out Av.out ?_); (case sg3 => rfl); (case so3 => rfl); (case sx3 => rfl); (case sy3 => rfl)))
  have qNKHX : V1.heap.size < V4.heap.size := NK.out.lt
  intro V5 hA hF hB
  have hy := ((Below.refl V4.heap.size V4).alloc (Nat.le_refl _) (.cells #[Value.bool false, .int .i64 0, .int .i64 0, .int .i64 0, .int .u8 0, .bool false, .int .u8 0, .int .u8 0, .int .u8 0, .int .u8 0, .int .u8 0, .int .u8 0, .int .u8 0, .int .u8 0, .int .u8 0, .int .u8 0, .int .u8 0, .int .u8 0, .int .u8 0, .int .u8 0, .int .u8 0, .int .u8 0, .bool false, .int .u8 0, .int .u8 0, .int .u8 0, .int .u8 0, .int .u8 0, .int .u8 0, .int .u8 0, .int .u8 0, .int .u8 0, .int .u8 0, .int .u8 0, .int .u8 0, .int .u8 0, .int .u8 0, .int .u8 0, .int .u8 0, .int .u16 0, .int .u16 0, .int .u8 0] 31)).trans (hB _ (Nat.le_refl _))
  replace K := Lib.hid (K.out.trans (hy.mono K.out.size))
  replace NK := Lib.hid (NK.out.below hy NK.out.lt)
  replace KB := Lib.hid (KB.out.trans (hy.mono KB.out.size))
  have HX := Lib.hid hA
  clear hA hF hB hy
  go_wp2_with fail
  refine (CC.out _ _ (RC.out.below KB.out)).mono ?_
  rintro e V6 ⟨rfl, hy⟩
  replace K := Lib.hid (K.out.trans (hy.mono K.out.size))
  replace NK := Lib.hid (NK.out.below hy NK.out.lt)
  replace KB := Lib.hid (KB.out.trans (hy.mono KB.out.size))
  replace HX := Lib.hid (HX.out.below hy HX.out.lt)
  clear hy
  go_wp2_with (((with_reducible refine wpList_blk_store (op := ⟨none, .store 31 (.tmp 5) (.tmp 24), _, _, _, _⟩) ?sg4 31 (.tmp 5) (.tmp 24) ?so4 (V6.heap.size) v0 ?sx4 ?sy4 (Blk.new V6 31 #[Value.bool false, .int .i64 0, .int .i64 0, .int .i64 0, .int .u8 0, .bool false, .int .u8 0, .int .u8 0, .int .u8 0, .int .u8 0, .int .u8 0, .int .u8 0, .int .u8 0, .int .u8 0, .int .u8 0, .int .u8 0, .int .u8 0, .int .u8 0, .int .u8 0, .int .u8 0, .int .u8 0, .int .u8 0, .bool false, .int .u8 0, .int .u8 0, .int .u8 0, .int .u8 0, .int .u8 0, .int .u8 0, .int .u8 0, .int .u8 0, .int .u8 0, .int .u8 0, .int .u8 0, .int .u8 0, .int .u8 0, .int .u8 0, .int .u8 0, .int .u8 0, .int .u16 0, .int .u16 0, .int .u8 0]) Y0.out Z0.out A0.out ?_); (case sg4 => rfl); (case so4 => rfl); (case sx4 => rfl); (case sy4 => rfl)))
  have qNKN5 : V1.heap.size < V6.heap.size := NK.out.lt
  have qHXN5 : V4.heap.size < V6.heap.size := HX.out.lt
  intro V7 hA hF hB
  have hy := ((Below.refl V6.heap.size V6).alloc (Nat.le_refl _) (.cells #[Value.bool false, .int .i64 0, .int .i64 0, .int .i64 0, .int .u8 0, .bool false, .int .u8 0, .int .u8 0, .int .u8 0, .int .u8 0, .int .u8 0, .int .u8 0, .int .u8 0, .int .u8 0, .int .u8 0, .int .u8 0, .int .u8 0, .int .u8 0, .int .u8 0, .int .u8 0, .int .u8 0, .int .u8 0, .bool false, .int .u8 0, .int .u8 0, .int .u8 0, .int .u8 0, .int .u8 0, .int .u8 0, .int .u8 0, .int .u8 0, .int .u8 0, .int .u8 0, .int .u8 0, .int .u8 0, .int .u8 0, .int .u8 0, .int .u8 0, .int .u8 0, .int .u16 0, .int .u16 0, .int .u8 0] 31)).trans (hB _ (Nat.le_refl _))
  replace K := Lib.hid (K.out.trans (hy.mono K.out.size))
  replace NK := Lib.hid (NK.out.below hy NK.out.lt)
  replace KB := Lib.hid (KB.out.trans (hy.mono KB.out.size))
  replace HX := Lib.hid (HX.out.below hy HX.out.lt)
  have N5 := Lib.hid hA
  clear hA hF hB hy
  clear h60 CR CC RC
  obtain ⟨i0, hi, hz0, hz1, hz2⟩ := info_parts Try.info5
  have hbase : w.heap.size ≤ V7.heap.size := K.out.size
  go_wp2_with ((at_make; refine wpList_make_full _ rfl _ _ 22 rfl w.heap.size 5 i0 (.int .u8 0) 1 Try.underlying22 hi hz0 hz1 .i64 .i64 _ _ m rfl rfl ?mka ?mkb ?mkc ?mkd hbase ?_))
  case mka => have q := HM.out; omega
  case mkb => have q := HM.out; omega
  case mkc => rw [hz2]; have q := HM.out; omega
  case mkd => have q := HM.out; unfold maxLen; omega
  intro V8 o1 g1
  rw [toList_madeCells_one, ← nus_zeros] at o1
  replace K := Lib.hid (K.out.grown g1 K.out.size (fun k e => by first | (cases e; done) | (cases e; first | exact Nat.le_refl _ | omega)))
  replace NK := Lib.hid (show Blk _ _ _ _ from (g1.block _ NK.out.lt (by first | (simp; done) | (simp; omega))).trans NK.out)
  replace KB := Lib.hid (KB.out.grown g1 KB.out.size (fun k e => by first | (cases e; done) | (cases e; first | exact Nat.le_refl _ | omega)))
  replace HX := Lib.hid (show Blk _ _ _ _ from (g1.block _ HX.out.lt (by first | (simp; done) | (simp; omega))).trans HX.out)
  replace N5 := Lib.hid (show Blk _ _ _ _ from (g1.block _ N5.out.lt (by first | (simp; done) | (simp; omega))).trans N5.out)
  have OZ := Lib.hid o1
  clear o1 g1 hi hz0 hz1 hz2 hbase
  have RZ := Lib.hid (Rd.own OZ.out)
  clear OZ
  go_wp2_with fail
  refine (CZ.out _ _ RZ.out).mono ?_
  rintro e V9 ⟨rfl, hy⟩
  replace K := Lib.hid (K.out.trans (hy.mono K.out.size))
  replace NK := Lib.hid (NK.out.below hy NK.out.lt)
  replace KB := Lib.hid (KB.out.trans (hy.mono KB.out.size))
  replace HX := Lib.hid (HX.out.below hy HX.out.lt)
  replace N5 := Lib.hid (N5.out.below hy N5.out.lt)
  clear hy
  go_wp2_with (((with_reducible refine wpList_blk_store (op := ⟨none, .store 31 (.tmp 7) (.tmp 29), _, _, _, _⟩) ?sg5 31 (.tmp 7) (.tmp 29) ?so5 (V9.heap.size) v0 ?sx5 ?sy5 (Blk.new V9 31 #[Value.bool false, .int .i64 0, .int .i64 0, .int .i64 0, .int .u8 0, .bool false, .int .u8 0, .int .u8 0, .int .u8 0, .int .u8 0, .int .u8 0, .int .u8 0, .int .u8 0, .int .u8 0, .int .u8 0, .int .u8 0, .int .u8 0, .int .u8 0, .int .u8 0, .int .u8 0, .int .u8 0, .int .u8 0, .bool false, .int .u8 0, .int .u8 0, .int .u8 0, .int .u8 0, .int .u8 0, .int .u8 0, .int .u8 0, .int .u8 0, .int .u8 0, .int .u8 0, .int .u8 0, .int .u8 0, .int .u8 0, .int .u8 0, .int .u8 0, .int .u8 0, .int .u16 0, .int .u16 0, .int .u8 0]) Y0.out Z0.out A0.out ?_); (case sg5 => rfl); (case so5 => rfl); (case sx5 => rfl); (case sy5 => rfl)))
  have qNKN7 : V1.heap.size < V9.heap.size := NK.out.lt
  have qHXN7 : V4.heap.size < V9.heap.size := HX.out.lt
  have qN5N7 : V6.heap.size < V9.heap.size := N5.out.lt
  intro V10 hA hF hB
  have hy := ((Below.refl V9.heap.size V9).alloc (Nat.le_refl _) (.cells #[Value.bool false, .int .i64 0, .int .i64 0, .int .i64 0, .int .u8 0, .bool false, .int .u8 0, .int .u8 0, .int .u8 0, .int .u8 0, .int .u8 0, .int .u8 0, .int .u8 0, .int .u8 0, .int .u8 0, .int .u8 0, .int .u8 0, .int .u8 0, .int .u8 0, .int .u8 0, .int .u8 0, .int .u8 0, .bool false, .int .u8 0, .int .u8 0, .int .u8 0, .int .u8 0, .int .u8 0, .int .u8 0, .int .u8 0, .int .u8 0, .int .u8 0, .int .u8 0, .int .u8 0, .int .u8 0, .int .u8 0, .int .u8 0, .int .u8 0, .int .u8 0, .int .u16 0, .int .u16 0, .int .u8 0] 31)).trans (hB _ (Nat.le_refl _))
  replace K := Lib.hid (K.out.trans (hy.mono K.out.size))
  replace NK := Lib.hid (NK.out.below hy NK.out.lt)
  replace KB := Lib.hid (KB.out.trans (hy.mono KB.out.size))
  replace HX := Lib.hid (HX.out.below hy HX.out.lt)
  replace N5 := Lib.hid (N5.out.below hy N5.out.lt)
  have N7 := Lib.hid hA
  clear hA hF hB hy
  clear CZ RZ
  go_wp2_with fail
  refine (CN.out _ _ (R0.out.below KB.out)).mono ?_
  rintro e V11 ⟨x, rfl, hx, hy⟩
  replace K := Lib.hid (K.out.trans (hy.mono K.out.size))
  replace NK := Lib.hid (NK.out.below hy NK.out.lt)
  replace KB := Lib.hid (KB.out.trans (hy.mono KB.out.size))
  replace HX := Lib.hid (HX.out.below hy HX.out.lt)
  replace N5 := Lib.hid (N5.out.below hy N5.out.lt)
  replace N7 := Lib.hid (N7.out.below hy N7.out.lt)
  obtain ⟨gn, cn, rfl⟩ := ownsRow_succ hx
  have n6 := Lib.hid (show V11.cell? ⟨gn, 6, none⟩ = some (.string { data := #[116, 99, 112] }) from own_cells hx 6 _ rfl)
  have n7 := Lib.hid (show V11.cell? ⟨gn, 7, none⟩ = some (.int .i64 58) from own_cells hx 7 _ rfl)
  have hgn := Lib.hid (hx.lt gn rfl).2
  have KN := Lib.hid (Below.refl V11.heap.size V11)
  have hcn : (4 : Int) ≤ (cn : Int) := by
    rcases hx.2 with ⟨e, -⟩ | ⟨g, cap, cur, e, -, -, h, -⟩
    · cases e
    · simp only [Value.slice.injEq] at e; obtain ⟨-, -, rfl⟩ := e; simp at h; omega
  clear hx
  clear hy
  clear CN
  have L6 := (HX.out.cell 0).trans v0'.out
  have L7 := (HX.out.cell 1).trans v1'.out
  have L8 := (HX.out.cell 2).trans v2'.out
  have L9 := (HX.out.cell 3).trans v3'.out
  have L10 : (loadVar 29 ⟨V4.heap.size, 4, none⟩).run Try.prog V11 = .ok (.agg kc) V11 := by have h := run_part_load (P := Try.prog) 29 4 kc.toList _ HX.out PK.out Try.underlying29 rfl IK.out; rwa [Array.toArray_toList] at h
  replace L10 := Lib.hid L10
  have L11 : (loadVar 29 ⟨V1.heap.size, 0, none⟩).run Try.prog V11 = .ok (.agg kc) V11 := run_blk_load (P := Try.prog) 29 (V1.heap.size) _ NK.out Try.underlying29 rfl Zk.out
  replace L11 := Lib.hid L11
  have L12 := (HX.out.cell 41).trans v5'.out
  go_wp2_with (first | ((with_reducible refine wpList_load_want (op := ⟨some 56, .load 29 (.tmp 55), _, _, _, _⟩) ?wg10 29 (.tmp 55) ?wo10 ⟨V4.heap.size, 4, none⟩ ?wx10 (.agg kc) L10.out ?_); (case wg10 => rfl); (case wo10 => rfl); (case wx10 => rfl)) | ((with_reducible refine wpList_load_want (op := ⟨some 57, .load 29 (.tmp 1), _, _, _, _⟩) ?wg11 29 (.tmp 1) ?wo11 ⟨V1.heap.size, 0, none⟩ ?wx11 (.agg kc) L11.out ?_); (case wg11 => rfl); (case wo11 => rfl); (case wx11 => rfl)))
  clear L6 L7 L8 L9 L10 L11 L12
  refine (CG.out _ _ (R0.out.below KB.out)).mono ?_
  rintro e V12 ⟨rfl, hy⟩
  replace K := Lib.hid (K.out.trans (hy.mono K.out.size))
  replace NK := Lib.hid (NK.out.below hy NK.out.lt)
  replace KB := Lib.hid (KB.out.trans (hy.mono KB.out.size))
  replace HX := Lib.hid (HX.out.below hy HX.out.lt)
  replace N5 := Lib.hid (N5.out.below hy N5.out.lt)
  replace N7 := Lib.hid (N7.out.below hy N7.out.lt)
  replace KN := Lib.hid (KN.out.trans (hy.mono KN.out.size))
  clear hy
  have m6 := (KN.out.cell (p := ⟨gn, 6, none⟩) hgn.out).trans n6.out
  have m7 := (KN.out.cell (p := ⟨gn, 7, none⟩) hgn.out).trans n7.out
  clear n6 n7
  go_wp2
  go_ret
  exact ⟨rfl, K.out⟩
end Go.Proofs.Ytopfbgoiehlhbaa

