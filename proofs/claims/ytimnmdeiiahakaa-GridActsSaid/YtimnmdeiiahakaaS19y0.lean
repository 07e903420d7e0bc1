/- What GridActs leans on: rows of items that are appended to, where a place's item stands, one place ahead of another. -/
import Derived.Test.YtimnmdeiiahakaaS19v0
import Derived.Test.YtimnmdeiiahakaaS19o
import Derived.Test.YtimnmdeiiahakaaHL
import Derived.Great.BuildSlice
import Derived.Laws.AppendOwnNone
import Derived.BigFrame
import Derived.DeepKeys
import Derived.Deep.CutBlock
import Derived.Deep.DeepCutAuto
import Derived.LoopTactic
import Derived.Handy
namespace Go.Proofs.Ytimnmdeiiahakaa
open Go.RowKit Go.Lib

/-- A slice of records of three cells that reads so. -/
def Rd3 (w : World) (v : Value) (n : Nat) (xs : List Value) : Prop :=
  ∃ (a : Option Addr) (cap : Nat), v = .slice a n cap ∧ xs.length = n * 3 ∧ n ≤ cap ∧ cap ≤ maxLen ∧ (xs = [] ∨ ∃ b off, a = some ⟨b, off, none⟩ ∧ b < w.heap.size ∧ ∀ j, j < xs.length → w.cell? ⟨b, off + j, none⟩ = xs[j]?)
theorem Rd3.below {w w' : World} {v : Value} {n : Nat} {xs : List Value} (h : Rd3 w v n xs) (hb : Below w.heap.size w w') : Rd3 w' v n xs := by
  obtain ⟨a, cap, rfl, h1, h2, h3, h4⟩ := h
  refine ⟨a, cap, rfl, h1, h2, h3, ?_⟩
  rcases h4 with h4 | ⟨b, off, rfl, hl, hc⟩
  · exact .inl h4
  · refine .inr ⟨b, off, rfl, Nat.lt_of_lt_of_le hl hb.size, fun j hj => ?_⟩
    rw [← hc j hj]
    unfold World.cell?
    rw [hb.block b hl]
theorem rd3_nil (w : World) : Rd3 w (.slice none 0 0) 0 [] := ⟨none, 0, rfl, rfl, Nat.le_refl _, by simp [maxLen], .inl rfl⟩
theorem Rd3.own {w : World} {base : Nat} {e : TypeId} {v : Value} {n : Nat} {xs : List Value} (h : w.ownsRow base e 3 v n xs) : Rd3 w v n xs := by
  have h' := h
  rcases h.2 with ⟨rfl, rfl⟩ | ⟨g, cap, cur, rfl, hbg, hg, h1, h2, h3, h4⟩
  · have : xs = [] := List.eq_nil_of_length_eq_zero (by rw [h.1, Nat.zero_mul])
    rw [this]; exact rd3_nil w
  · refine ⟨_, cap, rfl, h.1, h1, h2, .inr ⟨g, 0, rfl, (Array.getElem?_eq_some_iff.1 hg).1, fun j hj => ?_⟩⟩
    have e2 : xs[j]? = some xs[j] := List.getElem?_eq_getElem hj
    have q := h'.cells (g := g) rfl j _ e2
    rw [Addr.add_lit, Nat.zero_add] at q
    rw [Nat.zero_add, q, e2]
/-- The first so many of them, and all from one on. -/
theorem Rd3.front {w : World} {a : Option Addr} {n cap : Nat} {xs : List Value} (h : Rd3 w (.slice a n cap) n xs) (m : Nat) (hm : m ≤ n) : Rd3 w (.slice a m cap) m (xs.take (m * 3)) := by
  obtain ⟨a', cap', e, h1, h2, h3, h4⟩ := h
  simp only [Value.slice.injEq] at e
  obtain ⟨rfl, -, rfl⟩ := e
  have hle : m * 3 ≤ n * 3 := Nat.mul_le_mul_right 3 hm
  refine ⟨a, cap, rfl, by rw [List.length_take]; omega, by omega, h3, ?_⟩
  rcases h4 with rfl | ⟨b, off, rfl, hl, hc⟩
  · exact .inl (by simp)
  · refine .inr ⟨b, off, rfl, hl, fun j hj => ?_⟩
    rw [List.length_take] at hj
    rw [hc j (by omega), List.getElem?_take_of_lt (by omega)]
theorem Rd3.back {w : World} {b off n cap : Nat} {xs : List Value} (h : Rd3 w (.slice (some ⟨b, off, none⟩) n cap) n xs) (m : Nat) (hm : m ≤ n) :
    Rd3 w (.slice (if cap = m then some ⟨b, off, none⟩ else some ⟨b, off + m * 3, none⟩) (n - m) (cap - m)) (n - m) (xs.drop (m * 3)) := by
  obtain ⟨a', cap', e, h1, h2, h3, h4⟩ := h
  simp only [Value.slice.injEq] at e
  obtain ⟨rfl, -, rfl⟩ := e
  have hle : m * 3 ≤ n * 3 := Nat.mul_le_mul_right 3 hm
  refine ⟨_, cap - m, rfl, by rw [List.length_drop, Nat.sub_mul]; omega, by omega, by omega, ?_⟩
  by_cases hc0 : cap = m
  · left
    apply List.eq_nil_of_length_eq_zero
    have hnm : n = m := by omega
    rw [List.length_drop, hnm] at *
    omega
  · rw [if_neg hc0]
    rcases h4 with rfl | ⟨b', off', e, hl, hc⟩
    · exact .inl (by simp)
    · cases e
      refine .inr ⟨b, off + m * 3, rfl, hl, fun j hj => ?_⟩
      rw [List.length_drop] at hj
      rw [Nat.add_assoc, hc (m * 3 + j) (by omega), List.getElem?_drop]
theorem icells_take (sz : Nat) (L : List (Nat × Int)) (m : Nat) : icells sz (L.take m) = (icells sz L).take (m * 3) := by
  induction L generalizing m with
  | nil => simp [icells]
  | cons x L ih =>
    cases m with
    | zero => simp [icells]
    | succ m =>
      rw [List.take_succ_cons, icells_cons, icells_cons, ih, Nat.succ_mul]
      have : (icell sz x).length = 3 := rfl
      rw [List.take_append, this, Nat.add_sub_cancel, List.take_of_length_le (l := icell sz x) (by rw [this]; omega)]
theorem icells_drop (sz : Nat) (L : List (Nat × Int)) (m : Nat) : icells sz (L.drop m) = (icells sz L).drop (m * 3) := by
  induction L generalizing m with
  | nil => simp [icells]
  | cons x L ih =>
    cases m with
    | zero => simp
    | succ m =>
      rw [List.drop_succ_cons, icells_cons, ih, Nat.succ_mul]
      have : (icell sz x).length = 3 := rfl
      rw [List.drop_append, this, Nat.add_sub_cancel, List.drop_of_length_le (l := icell sz x) (by rw [this]; omega), List.nil_append]
theorem icells_set (sz : Nat) (L : List (Nat × Int)) (m k : Nat) (u v : Int) (h : L[m]? = some (k, u)) : (icells sz L).set (m * 3 + 2) (.int .i64 v) = icells sz (L.set m (k, v)) := by
  induction L generalizing m with
  | nil => simp at h
  | cons x L ih =>
    cases m with
    | zero =>
      obtain rfl : x = (k, u) := by simpa using h
      rw [List.set_cons_zero, icells_cons, icells_cons]
      rfl
    | succ m =>
      rw [List.set_cons_succ, icells_cons, icells_cons, ← ih m (by simpa using h)]
      have : (icell sz x).length = 3 := rfl
      rw [show (m + 1) * 3 + 2 = (icell sz x).length + (m * 3 + 2) by rw [this, Nat.succ_mul]; omega, List.set_append_right _ _ (Nat.le_add_right _ _), Nat.add_sub_cancel_left]
theorem one_ints (xs : List Value) (h : ∀ u ∈ xs, ∃ n : Int, u = .int .i64 n) : ∀ u ∈ xs, u.oneCell' = true := fun u hu => by
  obtain ⟨n, rfl⟩ := h u hu; rfl
theorem icells_ints (sz : Nat) (L : List (Nat × Int)) : ∀ u ∈ icells sz L, ∃ n : Int, u = .int .i64 n := by
  intro u hu
  unfold icells at hu
  obtain ⟨x, _, hx⟩ := List.mem_flatMap.1 hu
  simp [icell] at hx
  rcases hx with rfl | rfl | rfl <;> exact ⟨_, rfl⟩
/-- 'append(row, slice...)' of items. -/
theorem wpG_apps {w : World} {K : Act → World → Prop} {Q : Exit → Act → World → Prop} {o : Oper} {a : Act} (s x : Operand)
    (ho : o.op = .call { callee := .builtin .append, args := #[s, x], argTypes := #[28, 28] })
    (base : Nat) (v : Value) (n : Nat) (xs : List Value) (hs : a.eval s = v) (hown : w.ownsRow base 35 3 v n xs)
    (ao : Option Addr) (len cap : Nat) (ys : List Value) (hx : a.eval x = .slice ao len cap) (hr : Rd3 w (.slice ao len cap) len ys) (hn : ao = none → cap = 0) (hi1 : ∀ u ∈ ys, ∃ n : Int, u = .int .i64 n) (hlen : n + len ≤ 1000000) (hbase : base ≤ w.heap.size)
    (h : ∀ v' w', w'.ownsRow base 35 3 v' (n + len) (xs ++ ys) → w.grownBy w' v.ownBlock → K (a.put o.dst v') w') :
    o.wp Try.prog a w K Q := by
  obtain ⟨i0, hi, hz0, hz1, hz2⟩ := info_parts info35
  obtain ⟨a', cap', e, h1, h2, h3, h4⟩ := hr
  simp only [Value.slice.injEq] at e
  obtain ⟨rfl, -, rfl⟩ := e
  cases ao with
  | none =>
    obtain rfl := hn rfl
    obtain rfl : len = 0 := by omega
    have hb : ys = [] := List.eq_nil_of_length_eq_zero (by rw [h1])
    subst hb
    have hrun := run_append_owned_none (P := Try.prog) (w := w) base 28 o.type 35 i0 3 Try.underlying28 hi v n xs hown
    unfold Oper.wp
    simp [execOp, ho, resolve, invoke, builtin, hs, hx, hrun, Result.andThen]
    exact h v w (by simpa using hown) (World.grownBy.refl _ _)
  | some ad =>
    refine wp_append_own w s x 28 ho base 35 i0 (.agg #[.int .i64 0, .int .i64 0, .int .i64 0]) 3 24 Try.underlying28 hi hz0 hz1 hz2 rfl (by decide) v n xs hs hown ad len cap ys hx (by rw [h1]) ?_ (one_ints ys hi1) (by unfold maxLen; omega) (by omega) hbase (fun v' w' h1 h2 _ => h v' w' h1 h2)
    intro j u hj
    rcases h4 with h4 | ⟨b, off, e, hb, hcc⟩
    · rw [h4] at hj; simp at hj
    · cases e
      rw [Addr.add_lit, ← hj]; exact hcc j (List.getElem?_eq_some_iff.1 hj).1
theorem fill35 (a b c : Int) : Instr.fill (fun i => some (i * 3, 3)) ((Array.range (1 * 3)).map ((Value.agg #[.int .i64 0, .int .i64 0, .int .i64 0]).cells[· % (Value.agg #[.int .i64 0, .int .i64 0, .int .i64 0]).cells.size]!)) [(0, .agg #[.int .i64 a, .int .i64 b, .int .i64 c])] = some #[.int .i64 a, .int .i64 b, .int .i64 c] := by
  kernel_rfl
/-- The literal of one item. -/
theorem wpG_one {o : Oper} {a : Act} {w : World} {K : Act → World → Prop} {Q : Exit → Act → World → Prop} (x : Operand) (ho : o.op = .buildSlice 28 1 #[(0, x)]) (p q r : Int)
    (hx : a.eval x = .agg #[.int .i64 p, .int .i64 q, .int .i64 r])
    (h : ∀ w', Blk w' w.heap.size 35 #[.int .i64 p, .int .i64 q, .int .i64 r] → Below w.heap.size w w' → K (a.put o.dst (.slice (some ⟨w.heap.size, 0, none⟩) 1 1)) w') : o.wp Try.prog a w K Q := by
  obtain ⟨i, hi, hz, hs, -⟩ := info_parts info35
  refine wp_buildSlice 28 35 1 #[(0, x)] ho #[.int .i64 p, .int .i64 q, .int .i64 r] i _ Try.underlying28 hi hz (by rw [hs]; omega) (by rw [hs]; omega) ?_ (h _ (World.alloc_heap_new w _) ((Below.refl _ w).alloc (Nat.le_refl _) _))
  rw [hs]
  rw [show ((#[(0, x)] : Array (Nat × Operand)).map fun (i, x) => (i, a.eval x)).toList = [(0, a.eval x)] by simp, hx]
  exact fill35 p q r
theorem rd3_blk {w : World} {g : Nat} {p q r : Int} (h : Blk w g 35 #[.int .i64 p, .int .i64 q, .int .i64 r]) : Rd3 w (.slice (some ⟨g, 0, none⟩) 1 1) 1 [.int .i64 p, .int .i64 q, .int .i64 r] :=
  ⟨_, 1, rfl, rfl, Nat.le_refl _, by simp [maxLen], .inr ⟨g, 0, rfl, h.lt, fun j _ => by rw [Nat.zero_add, h.cell j]; simp⟩⟩
theorem own_none3 (w : World) (e : TypeId) : (w.alloc (.cells #[] e)).ownsRow w.heap.size e 3 (.slice (some ⟨w.heap.size, 0, none⟩) 0 0) 0 [] :=
  ⟨rfl, .inr ⟨w.heap.size, 0, #[], rfl, Nat.le_refl _, World.alloc_heap_new w _, Nat.le_refl _, by simp [maxLen], rfl, rfl⟩⟩
/-- A row of the call's own stays. -/
theorem row_under2 {w w' : World} {base : Nat} {e : TypeId} {k : Nat} {v : Value} {n : Nat} {xs : List Value} (h : w.ownsRow base e k v n xs) (hb : Below w.heap.size w w') : w'.ownsRow base e k v n xs := by
  refine ⟨h.1, ?_⟩
  rcases h.2 with h0 | ⟨g, cap, cur, rfl, hbg, hg, h3⟩
  · exact .inl h0
  · exact .inr ⟨g, cap, cur, rfl, hbg, (hb.block g (Array.getElem?_eq_some_iff.1 hg).1).trans hg, h3⟩
theorem row_apart {B n : Nat} {w w' : World} {base : Nat} {e : TypeId} {k : Nat} {v : Value} {m : Nat} {xs : List Value} (h : w.ownsRow base e k v m xs) (ha : Apart B n w w') (hb : B + n ≤ base) : w'.ownsRow base e k v m xs := by
  refine ⟨h.1, ?_⟩
  rcases h.2 with h0 | ⟨g, cap, cur, rfl, hbg, hg, h3⟩
  · exact .inl h0
  · exact .inr ⟨g, cap, cur, rfl, hbg, (ha.block g (Array.getElem?_eq_some_iff.1 hg).1 (.inr (by omega))).trans hg, h3⟩
theorem row_two {w : World} {base n : Nat} {e : TypeId} {k : Nat} {v : Value} {xs : List Value} (h : w.ownsRow base e k v n xs) : (v = .slice none 0 0 ∧ n = 0) ∨ ∃ g cap cur, v = .slice (some ⟨g, 0, none⟩) n cap ∧ n ≤ cap ∧ base ≤ g ∧ Blk w g e cur ∧ ∀ (j : Nat) (u : Value), xs[j]? = some u → cur[j]? = some u := by
  have h' := h
  rcases h.2 with ⟨rfl, rfl⟩ | ⟨g, cap, cur, rfl, hg, hh, hn, hm, hs, ht⟩
  · exact .inl ⟨rfl, rfl⟩
  · refine .inr ⟨g, cap, cur, rfl, hn, hg, hh, fun j u hj => ?_⟩
    have q := h'.cells (g := g) rfl j u hj
    rw [Addr.add_lit, Nat.zero_add] at q
    rw [← q]
    exact ((show Blk w g e cur from hh).cell j).symm
/-- One place ahead of another, as the search asks. -/
def bfP (sz : Nat) (a b : Int) (x : Nat × Int) : Bool := decide (((x.1 / sz : Nat) : Int) < a ∨ ((x.1 / sz : Nat) : Int) = a ∧ ((x.1 % sz : Nat) : Int) < b)
theorem tw_len {α : Type} (p : α → Bool) (L : List α) (q : Nat) (hq : q ≤ L.length) (h1 : ∀ j x, j < q → L[j]? = some x → p x = true) (h2 : ∀ x, L[q]? = some x → p x = false) : q = (L.takeWhile p).length := by
  induction L generalizing q with
  | nil => simpa using hq
  | cons x L ih =>
    cases q with
    | zero => rw [List.takeWhile_cons, h2 x rfl]; rfl
    | succ q =>
      rw [List.takeWhile_cons, h1 0 x (by omega) rfl]
      simp only [if_true, List.length_cons]
      rw [← ih q (by simpa using hq) (fun j y hj hy => h1 (j + 1) y (by omega) (by simpa using hy)) (fun y hy => h2 y (by simpa using hy))]
theorem at_in (st sz : Nat) (c : Nat → Option Int) (s i q : Nat) (hs : s < st) (hi : i < sz) (hq : q = ((itF c 0 (st * sz)).takeWhile (bfP sz s i)).length) : q = (itF c 0 (s * sz + i)).length := by
  rw [hq, ← itF_while c (st * sz) (s * sz + i) (num_lt hs hi)]
  congr 2
  funext x
  unfold bfP
  have hb := plc_before sz x.1 s i hi
  generalize x.1 / sz = u at *
  generalize x.1 % sz = v at *
  rw [decide_eq_decide, ← hb]
  omega
/-- What the search has found: whether an item of the place is there. -/
theorem has_eq (st sz : Nat) (c : Nat → Option Int) (a b : Int) (hz : 0 < sz) (q : Nat) (hq : q = ((itF c 0 (st * sz)).takeWhile (bfP sz a b)).length) :
    (∀ x, (itF c 0 (st * sz))[q]? = some x → decide (((x.1 / sz : Nat) : Int) = a ∧ ((x.1 % sz : Nat) : Int) = b) = (lkP st sz c a b).isSome) ∧ ((itF c 0 (st * sz)).length ≤ q → (lkP st sz c a b).isSome = false) := by
  by_cases hp : inP st sz a b
  · obtain ⟨s, i, rfl, rfl, h1, h2⟩ := inP_nat hp
    rw [lkP_in c h1 h2]
    have e := at_in st sz c s i q h1 h2 hq
    subst e
    constructor
    · intro x hx
      have hk : (((x.1 / sz : Nat) : Int) = (s : Int) ∧ ((x.1 % sz : Nat) : Int) = (i : Int)) ↔ x.1 = s * sz + i := by
        rw [← plc_same sz x.1 s i h2]
        generalize x.1 / sz = u
        generalize x.1 % sz = v
        omega
      cases hc : c (s * sz + i) with
      | some v =>
        have := itF_nth c (st * sz) _ (num_lt h1 h2) v hc
        rw [this] at hx
        obtain rfl := Option.some.inj hx
        exact decide_eq_true (hk.mpr rfl)
      | none => exact decide_eq_false fun h => itF_nth_ne c (st * sz) _ hc x hx (hk.mp h)
    · intro hle
      cases hc : c (s * sz + i) with
      | some v =>
        have := itF_nth c (st * sz) _ (num_lt h1 h2) v hc
        have := (List.getElem?_eq_some_iff.1 this).1
        omega
      | none => rfl
  · rw [lkP_no c hp]
    refine ⟨fun x hx => decide_eq_false fun h => hp ?_, fun _ => rfl⟩
    have hm := (itF_mem c 0 (st * sz) x).mp (List.mem_of_getElem? hx)
    have h1 := plc_in sz st x.1 (by omega)
    have h2 := Nat.mod_lt x.1 hz
    unfold inP
    generalize x.1 / sz = u at *
    generalize x.1 % sz = v at *
    omega
/-- What the three acts leave, as the law has it. -/
theorem act_keep (st sz : Nat) (c : Nat → Option Int) (a b : Int) (hl : lkP st sz c a b = none) : ptP st sz c a b none = c := by
  by_cases hp : inP st sz a b
  · obtain ⟨s, i, rfl, rfl, h1, h2⟩ := inP_nat hp
    rw [lkP_in c h1 h2] at hl
    rw [ptP_in c h1 h2, ← hl, putC_same]
  · exact ptP_no c hp _
theorem wf_put {st sz : Nat} {c : Nat → Option Int} {a b : Int} {v : Option Int} (h : ∀ k u, c k = some u → W64 u) (hv : ∀ u, v = some u → W64 u) : ∀ k u, ptP st sz c a b v k = some u → W64 u := by
  intro k u hu
  by_cases hp : inP st sz a b
  · obtain ⟨s, i, rfl, rfl, h1, h2⟩ := inP_nat hp
    rw [ptP_in c h1 h2] at hu
    unfold putC at hu
    split at hu
    · exact hv u hu
    · exact h k u hu
  · rw [ptP_no c hp] at hu; exact h k u hu
set_option maxRecDepth 100000 in
set_option maxHeartbeats 4000000 in
theorem before_lt (a b p q : Int) (h1 : a < p) (w : World) :
    Calls Try.prog 9 #[.agg #[.int .i64 a, .int .i64 b], .agg #[.int .i64 p, .int .i64 q]] w fun e w' => e = .returned (.bool true) ∧ Below w.heap.size w w' := by
  have K := Lib.hid (Below.refl w.heap.size w)
  have d1 : decide (a < p) = true := decide_eq_true h1
  clear h1
  have hb2 := ((Below.refl w.heap.size w).alloc (Nat.le_refl _) (.cells #[.int .i64 a, .int .i64 b] 30)).alloc (by simp) (.cells #[.int .i64 p, .int .i64 q] 30)
  have z1 := (Blk.new w 30 #[.int .i64 a, .int .i64 b]).alloc (.cells #[.int .i64 p, .int .i64 q] 30)
  have z2 := Blk.new (w.alloc (.cells #[.int .i64 a, .int .i64 b] 30)) 30 #[.int .i64 p, .int .i64 q]
  simp only [World.size_alloc] at z2
  replace K := Lib.hid hb2
  go_enter Try.func9, Try.ntmps9
  go_upto_region 1 with fail
  generalize (w.alloc (.cells #[.int .i64 a, .int .i64 b] 30)).alloc (.cells #[.int .i64 p, .int .i64 q] 30) = V at *
  have c0 : V.cell? ⟨w.heap.size, 0, none⟩ = some (.int .i64 a) := z1.cell 0
  have c1 : V.cell? ⟨w.heap.size, 1, none⟩ = some (.int .i64 b) := z1.cell 1
  have c2 : V.cell? ⟨w.heap.size + 1, 0, none⟩ = some (.int .i64 p) := z2.cell 0
  have c3 : V.cell? ⟨w.heap.size + 1, 1, none⟩ = some (.int .i64 q) := z2.cell 1
  clear hb2 z1 z2
  go_wp2
  go_ret
  exact ⟨rfl, K.out⟩
set_option maxRecDepth 100000 in
set_option maxHeartbeats 4000000 in
theorem before_eqlt (a b p q : Int) (h1 : ¬ a < p) (h2 : a = p) (w : World) :
    Calls Try.prog 9 #[.agg #[.int .i64 a, .int .i64 b], .agg #[.int .i64 p, .int .i64 q]] w fun e w' => e = .returned (.bool (decide (b < q))) ∧ Below w.heap.size w w' := by
  have K := Lib.hid (Below.refl w.heap.size w)
  have d1 : decide (a < p) = false := decide_eq_false h1
  have d2 : (a == p) = true := by rw [beq_iff_eq]; exact h2
  clear h2
  clear h1
  have hb2 := ((Below.refl w.heap.size w).alloc (Nat.le_refl _) (.cells #[.int .i64 a, .int .i64 b] 30)).alloc (by simp) (.cells #[.int .i64 p, .int .i64 q] 30)
  have z1 := (Blk.new w 30 #[.int .i64 a, .int .i64 b]).alloc (.cells #[.int .i64 p, .int .i64 q] 30)
  have z2 := Blk.new (w.alloc (.cells #[.int .i64 a, .int .i64 b] 30)) 30 #[.int .i64 p, .int .i64 q]
  simp only [World.size_alloc] at z2
  replace K := Lib.hid hb2
  go_enter Try.func9, Try.ntmps9
  go_upto_region 1 with fail
  generalize (w.alloc (.cells #[.int .i64 a, .int .i64 b] 30)).alloc (.cells #[.int .i64 p, .int .i64 q] 30) = V at *
  have c0 : V.cell? ⟨w.heap.size, 0, none⟩ = some (.int .i64 a) := z1.cell 0
  have c1 : V.cell? ⟨w.heap.size, 1, none⟩ = some (.int .i64 b) := z1.cell 1
  have c2 : V.cell? ⟨w.heap.size + 1, 0, none⟩ = some (.int .i64 p) := z2.cell 0
  have c3 : V.cell? ⟨w.heap.size + 1, 1, none⟩ = some (.int .i64 q) := z2.cell 1
  clear hb2 z1 z2
  go_wp2
  go_ret
  exact ⟨rfl, K.out⟩
set_option maxRecDepth 100000 in
set_option maxHeartbeats 4000000 in
theorem before_gt (a b p q : Int) (h1 : ¬ a < p) (h2 : ¬ a = p) (w : World) :
    Calls Try.prog 9 #[.agg #[.int .i64 a, .int .i64 b], .agg #[.int .i64 p, .int .i64 q]] w fun e w' => e = .returned (.bool false) ∧ Below w.heap.size w w' := by
  have K := Lib.hid (Below.refl w.heap.size w)
  have d1 : decide (a < p) = false := decide_eq_false h1
  have d2 : (a == p) = false := by rw [beq_eq_false_iff_ne]; exact h2
  clear h2
  clear h1
  have hb2 := ((Below.refl w.heap.size w).alloc (Nat.le_refl _) (.cells #[.int .i64 a, .int .i64 b] 30)).alloc (by simp) (.cells #[.int .i64 p, .int .i64 q] 30)
  have z1 := (Blk.new w 30 #[.int .i64 a, .int .i64 b]).alloc (.cells #[.int .i64 p, .int .i64 q] 30)
  have z2 := Blk.new (w.alloc (.cells #[.int .i64 a, .int .i64 b] 30)) 30 #[.int .i64 p, .int .i64 q]
  simp only [World.size_alloc] at z2
  replace K := Lib.hid hb2
  go_enter Try.func9, Try.ntmps9
  go_upto_region 1 with fail
  generalize (w.alloc (.cells #[.int .i64 a, .int .i64 b] 30)).alloc (.cells #[.int .i64 p, .int .i64 q] 30) = V at *
  have c0 : V.cell? ⟨w.heap.size, 0, none⟩ = some (.int .i64 a) := z1.cell 0
  have c1 : V.cell? ⟨w.heap.size, 1, none⟩ = some (.int .i64 b) := z1.cell 1
  have c2 : V.cell? ⟨w.heap.size + 1, 0, none⟩ = some (.int .i64 p) := z2.cell 0
  have c3 : V.cell? ⟨w.heap.size + 1, 1, none⟩ = some (.int .i64 q) := z2.cell 1
  clear hb2 z1 z2
  go_wp2
  go_ret
  exact ⟨rfl, K.out⟩
theorem before_any (a b p q : Int) (w : World) :
    Calls Try.prog 9 #[.agg #[.int .i64 a, .int .i64 b], .agg #[.int .i64 p, .int .i64 q]] w fun e w' => e = .returned (.bool (decide (a < p ∨ a = p ∧ b < q))) ∧ Below w.heap.size w w' := by
  by_cases h1 : a < p
  · rw [decide_eq_true (Or.inl h1)]; exact before_lt a b p q h1 w
  · by_cases h2 : a = p
    · have := before_eqlt a b p q h1 h2 w
      rwa [show decide (b < q) = decide (a < p ∨ a = p ∧ b < q) by congr 1; simp [h2]] at this
    · rw [decide_eq_false (by simp [h2]; omega)]; exact before_gt a b p q h1 h2 w
end Go.Proofs.Ytimnmdeiiahakaa
