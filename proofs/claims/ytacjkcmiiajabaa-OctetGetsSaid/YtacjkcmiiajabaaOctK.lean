/- The contract of bazaarlaw1.two: the words told, left off behind so many. -/
import Derived.Test.YtacjkcmiiajabaaOctJ
namespace Go.Proofs.Ytacjkcmiiajabaa
open Go.RowKit Go.Shelf
attribute [local go_sem] Oper.semAt_some

/-- How many words there are. -/
def nw (zs : List Nat) : Nat := (zs.length + 1) / 2
theorem even_two (zs : List Nat) : (even zs).length = 2 * nw zs := by rw [even_length]; unfold nw; omega
/-- How many of them are taken, where no more than so many are. -/
def cnt (m : Nat) (most : Int) : Nat := if 0 ≤ most ∧ most ≤ (m : Int) then most.toNat else m
/-- The words with their places. -/
def wds (zs : List Nat) (k : Nat) : List (Nat × Nat) := upto (wd (even zs)) k

def Got (b hi : Nat) (most : Int) (w0 : World) (l : List (Nat × Nat)) (W : World) : Prop :=
  ((∃ v, Boxed W (b + 1) 47 v ∧ W.ownsRow hi 3 1 v l.length (nus .i64 (l.map Prod.fst)) ∧ True) ∧
  (∃ v, Boxed W (b + 1 + 1) 48 v ∧ W.ownsRow hi 26 1 v l.length (nus .u16 (l.map Prod.snd)) ∧ True)) ∧
  Boxed W b 3 (.int .i64 most) ∧ (0 ≤ most → (l.length : Int) ≤ most) ∧ hi ≤ W.heap.size ∧ Below b w0 W

theorem Got.own (b hi B : Nat) (most : Int) (w0 : World) (h : b ≤ w0.heap.size) (hB : b ≤ B) : OwnFrom B (Got b hi most w0) :=
  OwnFrom.and (OwnFrom.and (Own.from (holdsRow_own hi (b + 1) 47 3 1 (fun l : List (Nat × Nat) => l.length) (fun l => nus .i64 (l.map Prod.fst)) (fun _ _ => True)) _)
    (Own.from (holdsRow_own hi (b + 1 + 1) 48 26 1 (fun l : List (Nat × Nat) => l.length) (fun l => nus .u16 (l.map Prod.snd)) (fun _ _ => True)) _))
    (OwnFrom.and (Own.from (boxed_own b 3 (fun _ => .int .i64 most)) _) (OwnFrom.and (ownFrom_pure _ (fun l : List (Nat × Nat) => (0 ≤ most → (l.length : Int) ≤ most))) (OwnFrom.and (fun _ _ _ _ hs hg _ => Nat.le_trans hs hg.size) (ownFrom_below h hB))))

theorem wds_done (zs : List Nat) (most : Int) (ys : List (Nat × Nat)) (h : ys = upto (wd (even zs)) (nw zs)) (hle : 0 ≤ most → (ys.length : Int) ≤ most) : wds zs (cnt (nw zs) most) = ys := by
  rw [h]
  have hl : ys.length = nw zs := by rw [h, upto_length]
  have : cnt (nw zs) most = nw zs := by
    unfold cnt
    split
    · rename_i hc
      have := hle hc.1
      omega
    · rfl
  rw [this]; rfl
theorem wds_stop (zs : List Nat) (most : Int) (pre : List (Nat × Nat)) (x : Nat × Nat) (k : Nat) (hk : k ≤ nw zs) (h : pre ++ [x] = upto (wd (even zs)) k) (hm : (pre.length : Int) = most) : wds zs (cnt (nw zs) most) = pre := by
  have hl : pre.length + 1 = k := by have := congrArg List.length h; simpa [upto_length] using this
  subst hl
  rw [upto_succ] at h
  have hp := (List.append_inj' h rfl).1
  have : cnt (nw zs) most = pre.length := by unfold cnt; rw [if_pos (by omega)]; omega
  rw [this, hp]
  unfold wds
  rw [upto_length]
theorem nf {p : Prop} (h : false = true) : p := by cases h
theorem eql_fn (f : Nat) (x y : Array Value) (w : World) : (binOp .eql 59 (.func (.func f) x y) .nilFunc).run Try.prog w = .ok (.bool false) w := by kernel_rfl

set_option maxRecDepth 100000 in
set_option maxHeartbeats 2000000 in
theorem two_all (va : Value) (zs : List Nat) (most : Int) (w : World) (hr : Rd w va (nus .u8 zs)) (hz : zs.length ≤ 1048576) (hb : ∀ c ∈ zs, c < 256) :
    Calls Try.prog 22 #[va, .int .i64 most] w fun e w' => ∃ x y, e = .returned (.tuple #[x, y]) ∧ Rd w' x (nus .i64 ((wds zs (cnt (nw zs) most)).map Prod.fst)) ∧ Rd w' y (nus .u16 ((wds zs (cnt (nw zs) most)).map Prod.snd)) ∧ Below w.heap.size w w' := by
  refine (callsIn_wide (n := 3)).1 ?_
  refine callsIn_of_wp_marks Try.func22 rfl trivial ?_ rfl
  simp only [Try.ntmps22, List.size_toArray, List.length_cons, List.length_nil, Nat.reduceAdd, Nat.reduceSub, Array.replicate_succ, Array.replicate_zero, List.push_toArray, List.append_toArray, List.nil_append, List.cons_append]
  have hb3 : Below w.heap.size w (((w.alloc (.cells #[.int .i64 most] 3)).alloc (.cells #[.slice none 0 0] 47)).alloc (.cells #[.slice none 0 0] 48)) :=
    (((Below.refl _ w).alloc (Nat.le_refl _) _).alloc (by simp) _).alloc (by simp; omega) _
  have x1 := ((Boxed.new w 3 (.int .i64 most)).alloc (.cells #[.slice none 0 0] 47)).alloc (.cells #[.slice none 0 0] 48)
  have x2 := (Boxed.new (w.alloc (.cells #[.int .i64 most] 3)) 47 (.slice none 0 0)).alloc (.cells #[.slice none 0 0] 48)
  have x3 := Boxed.new ((w.alloc (.cells #[.int .i64 most] 3)).alloc (.cells #[.slice none 0 0] 47)) 48 (.slice none 0 0)
  simp only [World.size_alloc] at x2 x3
  gi_wp2_with fail
  refine ⟨trivial, ?_⟩
  generalize hW : ((w.alloc (.cells #[.int .i64 most] 3)).alloc (.cells #[.slice none 0 0] 47)).alloc (.cells #[.slice none 0 0] 48) = W at hb3 x1 x2 x3 ⊢
  have hWs : W.heap.size = w.heap.size + 3 := by rw [← hW]; simp
  clear hW
  refine (callsIn_wide.2 (words_any va zs W (hr.below hb3) (by omega))).mono ?_
  rintro e W0 ⟨Be, g, rfl, h1, h2, h3, h4, h5⟩
  have hq := eql_fn
  gi_wp2_with fail
  have hLE := even_two zs
  have hEb : ∀ c ∈ even zs, c < 256 := by
    intro c hc
    rcases List.mem_append.1 hc with hc | hc
    · exact hb c hc
    · have := (List.mem_replicate.1 hc).2; omega
  have hz2 : (even zs).length ≤ 140737488355328 := by rw [even_length]; omega
  have hW0 := h5.size
  have hgs : g < W0.heap.size := (Array.getElem?_eq_some_iff.1 h4).1
  have hBs := h3.lt
  have hwW0 : Below w.heap.size w W0 := hb3.trans (h5.mono (by omega))
  have g0 : Got w.heap.size W0.heap.size most w [] W0 :=
    ⟨⟨⟨_, (h5.block _ (by omega)).trans x2, World.ownsRow_nil _ _ _ _, trivial⟩, ⟨_, (h5.block _ (by omega)).trans x3, World.ownsRow_nil _ _ _ _, trivial⟩⟩, (h5.block _ (by omega)).trans x1, fun h => by simpa using h, Nat.le_refl _, hwW0⟩
  refine wpIn_rangeFunc_ownG rfl (by omega) (gf := 36) (lb := #[.pointer (some ⟨Be, 0, none⟩)]) rfl trivial (enters_of Try.func36 (by kernel_rfl) rfl)
    (it_stops 2 (by omega) Be g W.heap.size W0.heap.size (nw zs) (even zs) hLE hEb hz2 h1 hBs h2 hgs W0 (Nat.le_refl _) h3 h4) mid_t (mid_b (Nat.le_refl _)) (Below.refl _ _) (fun _ => rfl)
    (Got w.heap.size W0.heap.size most w)
    (fun c l W' => c = .exit 0 ∧ ∃ pre x, l = pre ++ [x] ∧ Got w.heap.size W0.heap.size most w pre W' ∧ (pre.length : Int) = most)
    (Got.own _ _ _ _ _ (Nat.le_refl _) (by omega))
    (fun c s A B row hs hg hr => by
      obtain ⟨e1, pre, x, e2, e3, e4⟩ := hs
      exact ⟨e1, pre, x, e2, Got.own _ _ W0.heap.size _ _ (Nat.le_refl _) (by omega) pre A B row e3 hg hr, e4⟩)
    g0
    (fun x => { tmps := #[va, .int .i64 most, undef, .pointer (some ⟨w.heap.size, 0, none⟩), .slice none 0 0, .slice none 0 0, .pointer (some ⟨w.heap.size + 1, 0, none⟩), .pointer (some ⟨w.heap.size + 1 + 1, 0, none⟩), .func (.func 36) #[] #[.pointer (some ⟨Be, 0, none⟩)], .int .i64 (x.1 : Int), .int .u16 (x.2 : Int), va, .func (.func 36) #[] #[.pointer (some ⟨Be, 0, none⟩)], .func (.func 36) #[] #[.pointer (some ⟨Be, 0, none⟩)], .bool false, .func (.func 36) #[] #[.pointer (some ⟨Be, 0, none⟩)], .int .i64 (x.1 : Int), .int .u16 (x.2 : Int), undef, undef, undef, undef, undef, undef, undef, undef, undef, undef, undef, undef, undef, undef], defers := [] }) ?assign ?body ?done ?stop
  case assign =>
    intro l x W' K hK
    gi_wp2
    exact hK
  case body =>
    rintro l pre x W' hG hlt
    obtain ⟨⟨⟨v1, bx1, r1, _⟩, ⟨v2, bx2, r2, _⟩⟩, bxm, hle, hhi, hB⟩ := hG
    have hpl : pre.length < 1048577 := by unfold nw at hlt; omega
    have HRest := Lib.hid (And.intro hr (And.intro hz (And.intro hb (And.intro hb3 (And.intro x1 (And.intro x2 x3))))))
    have HMore := Lib.hid (And.intro h1 (And.intro h2 (And.intro h3 (And.intro h4 (And.intro h5 (And.intro hLE (And.intro hEb (And.intro hwW0 (And.intro hgs hBs)))))))))
    clear hr hz hb hb3 x1 x2 x3 h1 h2 h3 h4 h5 hLE hEb hz2 hgs hBs hwW0 g0 hq
    obtain ⟨a1, k1, rfl⟩ : ∃ a1 k1, v1 = .slice a1 pre.length k1 := by
      rcases r1.2 with ⟨rfl, h0⟩ | ⟨g', cap, cur, rfl, _⟩
      · exact ⟨none, 0, by rw [h0]⟩
      · exact ⟨_, _, rfl⟩
    have c1 := bx1.cell
    have cm := bxm.cell
    by_cases hm : (pre.length : Int) = most
    · have hmq : (((pre.length : Nat) : Int) == most) = true := by rw [beq_iff_eq]; exact hm
      have HM := Lib.hid hm
      have HLt := Lib.hid hlt
      have HLe := Lib.hid hle
      clear hm hlt hle
      gi_wp2
      refine ⟨KeepsFrom.refl _ _, rfl, pre, x, rfl, ⟨⟨⟨_, bx1, r1, trivial⟩, ⟨_, bx2, r2, trivial⟩⟩, bxm, HLe.out, hhi, hB⟩, HM.out⟩
    · have hmq : (((pre.length : Nat) : Int) == most) = false := by rw [beq_eq_false_iff_ne]; exact hm
      have HM := Lib.hid hm
      have HLt := Lib.hid hlt
      have HLe := Lib.hid hle
      clear hm hlt hle
      gi_wp2
      refine region_round l _ (by kernel_rfl) (by kernel_rfl) (fun h => by obtain ⟨_, _, h⟩ := h; exact h) ?_
      refine two_app ⟨22, 23, 24, 25, 6, 9, w.heap.size + 1, 47, 3, .int .i64 (x.1 : Int), .slice a1 pre.length k1, pre.length, nus .i64 (pre.map Prod.fst)⟩ ⟨26, 27, 28, 29, 7, 10, w.heap.size + 1 + 1, 48, 26, .int .u16 (x.2 : Int), v2, pre.length, nus .u16 (pre.map Prod.snd)⟩
        W0.heap.size W'.heap.size 32 22 _ _ _ _ _ _ _ _ _ _ (by kernel_rfl) (by kernel_rfl) ⟨rfl, rfl, rfl, rfl, rfl, rfl, rfl, rfl, rfl, rfl⟩
        ⟨fun K a w v h hb hK => ap_load _ _ _ _ _ _ K a w v h hb hK, fun K a w h hK => ap_move _ _ _ _ _ _ K a w _ h hK, fun K a w h hK => ap_build _ _ _ _ _ K a w _ h hK,
          fun K a w p h1 h2 h3 h4 h5 h6 => ap_app _ _ _ _ _ _ K a w _ _ p _ _ _ (by show pre.length < _; omega) h1 h2 h3 h4 h5 h6, fun K a w v g k h1 h2 h3 hK => ap_store _ _ _ _ _ _ _ K a w v g _ k h1 h2 h3 hK⟩
        ⟨fun K a w v h hb hK => aq_load _ _ _ _ _ _ K a w v h hb hK, fun K a w h hK => ap_move _ _ _ _ _ _ K a w _ h hK, fun K a w h hK => aq_build _ _ _ _ _ K a w _ h hK,
          fun K a w p h1 h2 h3 h4 h5 h6 => aq_app _ _ _ _ _ _ K a w _ _ p _ _ _ (by show pre.length < _; omega) h1 h2 h3 h4 h5 h6, fun K a w v g k h1 h2 h3 hK => aq_store _ _ _ _ _ _ _ K a w v g _ k h1 h2 h3 hK⟩
        ⟨rfl, rfl, rfl, rfl, show (6 : Nat) < 22 from by decide, show (9 : Nat) < 22 from by decide⟩ ⟨rfl, rfl, rfl, rfl, show (7 : Nat) < 22 from by decide, show (10 : Nat) < 22 from by decide⟩ (by decide)
        ⟨show (47 : Nat) ≠ 3 from by decide, show (47 : Nat) ≠ 26 from by decide, show (48 : Nat) ≠ 3 from by decide, show (48 : Nat) ≠ 26 from by decide, show (3 : Nat) ≠ 26 from by decide⟩ (by simp) (fun k e => (r1.lt k e).2) (fun k e => (r2.lt k e).2)
        (fun Wn => KeepsOthers W' Wn ∧ Mid W.heap.size W0.heap.size W' Wn ∧ Below w.heap.size w Wn ∧ Boxed Wn w.heap.size 3 (.int .i64 most)) ?kp _ _ hhi (Nat.le_refl _) ?ch1 ?ch2 ?k0 ?fin
      case kp =>
        rintro A B r ⟨q1, q2, q3, q4⟩ hg hrow
        refine ⟨q1.trans (KeepsOthers.of_grownBy hg fun j o ej hj => ?_), q2.trans ⟨hg.size, fun k hk1 hk2 => hg.block k (by have := q1.size; omega) fun e => ?_⟩, q3.grown hg q3.size fun k e => ?_, q4.kept hg fun e => ?_⟩
        · obtain ⟨_, o', ho', hc⟩ := hrow j ej
          rw [hj] at ho'; cases ho'; exact hc
        · have := (hrow k e.symm).1; simp only at this; omega
        · have := (hrow k e).1; simp only at this; omega
        · have := (hrow _ e.symm).1; simp only at this; omega
      case ch1 => exact ⟨⟨nf, nf, nf⟩, rfl, rfl, rfl, nf, nf, nf, fun _ => r1, nf, fun _ => bx1, nf⟩
      case ch2 => exact ⟨⟨nf, nf, nf⟩, rfl, rfl, rfl, nf, nf, nf, fun _ => r2, nf, fun _ => bx2, nf⟩
      case k0 => exact ⟨KeepsOthers.drew _, Mid.refl _ _ _, hB.drew, bxm⟩
      case fin =>
        rintro a A ⟨_, _, _, _, _, _, _, _, z1, _, z2⟩ ⟨_, _, _, _, _, _, _, _, y1, _, y2⟩ ⟨q1, q2, q3, q4⟩
        have hmo := HM.out
        have hlo := HLe.out
        refine ⟨q1.from _, q2, ⟨⟨_, z2 rfl, ?_, trivial⟩, ⟨_, y2 rfl, ?_, trivial⟩⟩, q4, fun h => ?_, Nat.le_trans hhi q1.size, q3⟩
        · rw [List.length_append, List.map_append, nus_append]; exact z1 rfl
        · rw [List.length_append, List.map_append, nus_append]; exact y1 rfl
        · have := hlo h; rw [List.length_append, List.length_singleton]; push_cast; omega
  case done =>
    rintro D ys Wn hD hys ⟨⟨⟨v1, bx1, r1, _⟩, ⟨v2, bx2, r2, _⟩⟩, bxm, hle, hhi, hB⟩ hK
    have c1 := bx1.cell
    have c2 := bx2.cell
    have HWD : Hid (wds zs (cnt (nw zs) most) = ys) := show _ = _ from wds_done zs most ys hys hle
    have HR1 := Lib.hid r1
    have HR2 := Lib.hid r2
    clear hys r1 r2 hle hr hz hb hb3 x1 x2 x3 h1 h2 h3 h4 h5 hLE hEb hz2 hgs hBs hwW0 g0 hq
    gi_wp2
    gi_region
    all_goals gi_wp2
    all_goals
      refine ⟨by simp, .inl ⟨_, _, rfl, run_takeDeferred hK, ?_⟩⟩
      refine ⟨.tuple #[v1, v2], by simp [results, Try.f22, go_sem], v1, v2, rfl, ?_, ?_, hB.drew.trans (belowK_b (w := w) (Nat.le_refl _) Wn.drew D _ _ (by omega) hK rfl rfl)⟩
      · rw [HWD.out]; exact Rd.own (ownsRow_putObj HR1.out.drew _ hK rfl)
      · rw [HWD.out]; exact Rd.own (ownsRow_putObj HR2.out.drew _ hK rfl)
  case stop =>
    rintro D c l Wn hD ⟨k, hk, hl⟩ ⟨rfl, pre, x, e, ⟨⟨⟨v1, bx1, r1, _⟩, ⟨v2, bx2, r2, _⟩⟩, bxm, hle, hhi, hB⟩, hm⟩ hK
    have c1 := bx1.cell
    have c2 := bx2.cell
    have HWD : Hid (wds zs (cnt (nw zs) most) = pre) := show _ = _ from wds_stop zs most pre x k hk (by rw [← e, hl]) hm
    have HR1 := Lib.hid r1
    have HR2 := Lib.hid r2
    clear hl e hm r1 r2 hle hr hz hb hb3 x1 x2 x3 h1 h2 h3 h4 h5 hLE hEb hz2 hgs hBs hwW0 g0 hq
    gi_wp2
    gi_region
    all_goals gi_wp2
    all_goals
      refine ⟨by simp, .inl ⟨_, _, rfl, run_takeDeferred hK, ?_⟩⟩
      refine ⟨.tuple #[v1, v2], by simp [results, Try.f22, go_sem], v1, v2, rfl, ?_, ?_, hB.drew.trans (belowK_b (w := w) (Nat.le_refl _) Wn.drew D _ _ (by omega) hK rfl rfl)⟩
      · rw [HWD.out]; exact Rd.own (ownsRow_putObj HR1.out.drew _ hK rfl)
      · rw [HWD.out]; exact Rd.own (ownsRow_putObj HR2.out.drew _ hK rfl)
end Go.Proofs.Ytacjkcmiiajabaa
