/- Texts that the walks of this seat lean on, put together. -/
import Derived.OwnWalk
import Derived.Deep.CutBlock
import Derived.Deep.DeepCutAuto
import Derived.LoopTactic
import Derived.Handy
import Derived.Test.YtcgaibkpdihncaaDoorTk
import Derived.Test.YtcgaibkpdihncaaDoorM11
import Derived.Test.YtcgaibkpdihncaaDoorM19
import Derived.Test.YtcgaibkpdihncaaDoorM20
namespace Go.Proofs.YtcgaibkpdihncaaDoor
open Go.RowKit Go.Lib
theorem info3 : (Tryd.prog.info? 3).map (fun i => (i.zero, i.size, i.bytes)) = some (some (.int .i64 0), 1, 8) := by kernel_rfl
theorem run_ints (n : Nat) (hn : n ≤ 1048576) (w : World) : ∃ w', (Instr.makeSlice 22 (.int .i64 (n : Int)) (.int .i64 (n : Int))).run Tryd.prog w = .ok (.slice (some ⟨w.heap.size, 0, none⟩) n n) w' ∧ Blk w' w.heap.size 3 (nus .i64 (List.replicate n 0)).toArray ∧ Below w.heap.size w w' := by
  obtain ⟨i0, hi, hz0, hz1, hz2⟩ := info_parts info3
  obtain ⟨w', hrun, r1, r2⟩ := run_make_full (P := Tryd.prog) w w.heap.size 22 3 i0 (.int .i64 0) 1 Tryd.underlying22 hi hz0 hz1 .i64 .i64 n (by rw [hz2]; omega) (by unfold maxLen; omega) (Nat.le_refl _)
  have hr : (madeCells #[Value.int .i64 0] (n * 1)).toList = nus .i64 (List.replicate n 0) := by
    rw [toList_madeCells_one, Nat.mul_one]
    simp [nus]
  refine ⟨w', hrun, ?_, (Below.refl _ _).grown r2 (Nat.le_refl _) (fun k e => by cases e)⟩
  have r3 := r1
  rw [show (Value.int IntKind.i64 0).cells = #[Value.int .i64 0] from rfl, hr] at r3
  exact (own_heap r3).1
theorem wpList_ints {ops : Array Oper} {rest : List Oper} {o : Oper} {a : Act} {w : World} {Q : Exit → Act → World → Prop} (hg : o.guard = none) (l c : Operand) (hop : o.op = Op.makeSlice 22 l c) (n : Nat) (hn : n ≤ 1048576) (hl : a.eval l = .int .i64 (n : Int)) (hc : a.eval c = .int .i64 (n : Int))
    (hK : ∀ w', Blk w' w.heap.size 3 (nus .i64 (List.replicate n 0)).toArray → Below w.heap.size w w' → wpList Tryd.prog ops Q rest (a.put o.dst (.slice (some ⟨w.heap.size, 0, none⟩) n n)) w') : wpList Tryd.prog ops Q (o :: rest) a w := by
  refine wpList_plain hg fun K hK' => ?_
  obtain ⟨w', hrun, r1, r2⟩ := run_ints n hn w
  unfold Oper.wp
  simp [execOp, hop, hl, hc, hrun, Result.andThen]
  exact hK' _ _ (hK w' r1 r2)
theorem nusa_set (k : IntKind) (l : List Nat) (i v : Nat) : (nus k l).toArray.setIfInBounds i (.int k (v : Int)) = (nus k (l.set i v)).toArray := by
  unfold nus
  rw [List.setIfInBounds_toArray, List.map_set]
theorem nusa_at (k : IntKind) (l : List Nat) (i : Nat) (h : i < l.length) : (nus k l).toArray[i]? = some (.int k ((l.getD i 0 : Nat) : Int)) := by
  rw [List.getElem?_toArray]
  exact nus_get k l i h
def UpTo (f : Nat → Nat) (n k : Nat) (L : List Nat) : Prop := L.length = n ∧ ∀ j, j < k → L.getD j 0 = f j
theorem UpTo.next {f : Nat → Nat} {n k : Nat} {L : List Nat} (h : UpTo f n k L) (hk : k < n) : UpTo f n (k + 1) (L.set k (f k)) := by
  obtain ⟨h1, h2⟩ := h
  refine ⟨by rw [List.length_set, h1], fun j hj => ?_⟩
  rw [List.getD_eq_getElem?_getD]
  by_cases e : j = k
  · subst e
    rw [List.getElem?_set_self (by omega)]
    rfl
  · rw [List.getElem?_set_ne (by omega), ← List.getD_eq_getElem?_getD]
    exact h2 j (by omega)
theorem UpTo.all {f : Nat → Nat} {n : Nat} {L : List Nat} (h : UpTo f n n L) : L = (List.range n).map f := by
  obtain ⟨h1, h2⟩ := h
  apply List.ext_getElem
  · rw [h1, List.length_map, List.length_range]
  · intro i hi hj
    have a := h2 i (by omega)
    rw [List.getD_eq_getElem?_getD, List.getElem?_eq_getElem hi] at a
    simp only [Option.getD_some] at a
    rw [a, List.getElem_map, List.getElem_range]
theorem cell_lt {w : World} {b k : Nat} {v : Value} (h : w.cell? ⟨b, k, none⟩ = some v) : b < w.heap.size := by
  rcases Nat.lt_or_ge b w.heap.size with hlt | hge
  · exact hlt
  · simp [World.cell?, Array.getElem?_eq_none hge] at h
theorem rd_kept {w w' : World} {b o n c : Nat} {xs : List Value} (h : Rd w (.slice (some ⟨b, o, none⟩) n c) xs) (hF : w'.heap[b]? = w.heap[b]?) : Rd w' (.slice (some ⟨b, o, none⟩) n c) xs := by
  obtain ⟨a, cap, e, h1, h2, h3⟩ := h
  refine ⟨a, cap, e, h1, h2, ?_⟩
  rcases h3 with h3 | ⟨b', off, ea, hlt, hc⟩
  · exact .inl h3
  · refine .inr ⟨b', off, ea, ?_, ?_⟩
    all_goals
      subst ea
      simp only [Value.slice.injEq, Option.some.injEq, Addr.mk.injEq] at e
      obtain ⟨⟨rfl, rfl, -⟩, -, -⟩ := e
    · rcases Nat.lt_or_ge b w'.heap.size with hl | hg
      · exact hl
      · rw [Array.getElem?_eq_none hg] at hF
        rw [Array.getElem?_eq_getElem hlt] at hF
        cases hF
    · intro i hi
      exact (World.cell?_of_block (a := ⟨b, o + i, none⟩) hF).trans (hc i hi)
theorem rd_lt {w : World} {b o n c : Nat} {k : IntKind} {xs : List Nat} (h : Rd w (.slice (some ⟨b, o, none⟩) n c) (nus k xs)) (h0 : 0 < xs.length) : b < w.heap.size := by
  obtain ⟨a, cap, e, h1, h2, h3⟩ := h
  rcases h3 with h3 | ⟨b', off, ea, hlt, hc⟩
  · rw [nus_nil] at h3; subst h3; exact absurd h0 (by simp)
  · subst ea
    simp only [Value.slice.injEq, Option.some.injEq, Addr.mk.injEq] at e
    obtain ⟨⟨rfl, -, -⟩, -, -⟩ := e
    exact hlt
set_option maxRecDepth 100000 in
set_option maxHeartbeats 4000000 in
theorem ints_any (va vb : Value) (L : List Nat) (w : World) (ha : Rd w va (nus .i64 L)) (hb : Rd w vb (nus .i64 L)) (hz : L.length ≤ 1000000) :
    Calls Tryd.prog 17 #[va, vb] w fun e w' => e = .returned (.bool true) ∧ Below w.heap.size w w' := by
  obtain ⟨a1, c1, rfl, h1, h1m⟩ := rd_shape ha
  obtain ⟨a2, c2, rfl, h2, h2m⟩ := rd_shape hb
  obtain ⟨n, hn⟩ : ∃ n, n = L.length := ⟨_, rfl⟩
  rw [← hn] at ha hb h1 h2 hz ⊢
  have R1 := Lib.hid ha
  have R2 := Lib.hid hb
  clear ha hb hn
  go_enter Tryd.func17, Tryd.ntmps17
  go_wp2_with fail
  go_loopw [5] (fun i wr => ∃ k : Nat, k ≤ n ∧ i = .int .i64 (k : Int) ∧ Below w.heap.size w wr) (fun i _ => n - (RowKit.intOf i).toNat)
  case atStart => exact ⟨0, Nat.zero_le _, rfl, Below.refl _ _⟩
  case round =>
    obtain ⟨k, hk, rfl, hy⟩ := hrel
    have K := Lib.hid hy
    clear hy
    by_cases hkn : k < n
    · have hki : (k : Int) < (n : Int) := by omega
      obtain ⟨b1, o1, rfl, q1⟩ := (R1.out.below K.out).cells (by omega)
      obtain ⟨b2, o2, rfl, q2⟩ := (R2.out.below K.out).cells (by omega)
      have C1 := Lib.hid (q1 k hkn)
      have C2 := Lib.hid (q2 k hkn)
      have B1 := Lib.hid (cell_lt C1.out)
      have B2 := Lib.hid (cell_lt C2.out)
      clear q1 q2
      generalize L.getD k 0 = x at *
      have e1 : ((x : Int) != (x : Int)) = false := by simp
      have e2 : ((x : Int) == (x : Int)) = true := by simp
      go_wp2_with fail
      refine wp_region_held (S := (fun w' : World => Below (wr.heap.size) wr w')) (by kernel_rfl) ?_
      change wpAnyH _ _ _ _ _ _ _ _ wr.drew
      have hy : Below wr.heap.size wr wr.drew := (Below.refl _ _).drew
      have hE0 : Below (wr.heap.size) wr wr.drew := (Below.refl _ _).drew
      clear hy
      generalize wr.drew = Y6x0 at hE0  ⊢
      have E0 := Lib.hid hE0
      clear hE0
      refine tkA 0 (?_) ?_ E0.out ?_
      rotate_left
      · (intro w1 hS; go_simp; try with_reducible rfl)
      simp only [Act.put, tS1, tS2, tS3]
      refine tkA 1 (?_) ?_ E0.out ?_
      rotate_left
      · (intro w1 hS; go_simp; try with_reducible rfl)
      simp only [Act.put, tS1, tS2, tS3]
      refine tkA 2 (?_) ?_ E0.out ?_
      rotate_left
      · (intro w1 hS; go_simp; try with_reducible rfl)
      simp only [Act.put, tS1, tS2, tS3]
      refine tkA 3 (?_) ?_ E0.out ?_
      rotate_left
      · (intro w1 hS; have hW := hS; have q := (hW.cell (p := ⟨b1, o1 + k, none⟩) B1.out).trans C1.out; clear hW hS; go_simp; try with_reducible rfl)
      simp only [Act.put, tS1, tS2, tS3]
      refine tkA 4 (?_) ?_ E0.out ?_
      rotate_left
      · (intro w1 hS; go_simp; try with_reducible rfl)
      simp only [Act.put, tS1, tS2, tS3]
      refine tkA 5 (?_) ?_ E0.out ?_
      rotate_left
      · (intro w1 hS; go_simp; try with_reducible rfl)
      simp only [Act.put, tS1, tS2, tS3]
      refine tkA 6 (?_) ?_ E0.out ?_
      rotate_left
      · (intro w1 hS; go_simp; try with_reducible rfl)
      simp only [Act.put, tS1, tS2, tS3]
      refine tkA 7 (?_) ?_ E0.out ?_
      rotate_left
      · (intro w1 hS; have hW := hS; have q := (hW.cell (p := ⟨b2, o2 + k, none⟩) B2.out).trans C2.out; clear hW hS; go_simp; try with_reducible rfl)
      simp only [Act.put, tS1, tS2, tS3]
      refine tkA 8 (?_) ?_ E0.out ?_
      rotate_left
      · (intro w1 hS; go_simp; try with_reducible rfl)
      simp only [Act.put, tS1, tS2, tS3]
      refine wpAnyH_done (by kernel_rfl) ?_ _
      have hy := E0.out
      replace K := Lib.hid (K.out.trans (hy.mono K.out.size))
      clear hy E0
      go_wp2
      go_roundw
      case rel => exact ⟨k + 1, by omega, by go_num, K.out⟩
      case measure => simp [RowKit.intOf]; omega
    · obtain rfl : n = k := by omega
      go_wp2
      go_ret
      exact ⟨rfl, K.out⟩
end Go.Proofs.YtcgaibkpdihncaaDoor
