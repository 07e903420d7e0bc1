/- Texts that the walks of this seat lean on, put together. -/
import Derived.StillTailTactics
import Derived.Deep.CutBlock
import Derived.Deep.DeepCutAuto
import Derived.Lib.SliceRun
import Derived.LoopTactic
import Derived.Handy
import Derived.Test.YtcgaibkpdihncaaDoorTk
import Derived.Test.YtcgaibkpdihncaaDoorM37
namespace Go.Proofs.YtcgaibkpdihncaaDoor
open Go.RowKit Go.Lib
theorem eqp2_nil (W : World) : (binOp .eql 31 (.pointer none) (.pointer none)).run Tryd.prog W = .ok (.bool true) W := by kernel_rfl
theorem eqp2_some (p : Addr) (W : World) : (binOp .eql 31 (.pointer (some p)) (.pointer none)).run Tryd.prog W = .ok (.bool false) W := by kernel_rfl
theorem info70 : (Tryd.prog.info? 70).map (fun i => (i.zero, i.size, i.bytes)) = some (some (.int .u64 0), 1, 8) := by kernel_rfl
theorem run_u64s (n : Nat) (hn : n ≤ 1048576) (w : World) : ∃ w', (Instr.makeSlice 64 (.int .i64 (n : Int)) (.int .i64 (n : Int))).run Tryd.prog w = .ok (.slice (some ⟨w.heap.size, 0, none⟩) n n) w' ∧ Blk w' w.heap.size 70 (nus .u64 (List.replicate n 0)).toArray ∧ Below w.heap.size w w' := by
  obtain ⟨i0, hi, hz0, hz1, hz2⟩ := info_parts info70
  obtain ⟨w', hrun, r1, r2⟩ := run_make_full (P := Tryd.prog) w w.heap.size 64 70 i0 (.int .u64 0) 1 Tryd.underlying64 hi hz0 hz1 .i64 .i64 n (by rw [hz2]; omega) (by unfold maxLen; omega) (Nat.le_refl _)
  have hr : (madeCells #[Value.int .u64 0] (n * 1)).toList = nus .u64 (List.replicate n 0) := by
    rw [toList_madeCells_one, Nat.mul_one]
    simp [nus]
  refine ⟨w', hrun, ?_, (Below.refl _ _).grown r2 (Nat.le_refl _) (fun k e => by cases e)⟩
  have r3 := r1
  rw [show (Value.int IntKind.u64 0).cells = #[Value.int .u64 0] from rfl, hr] at r3
  exact (own_heap r3).1
theorem wpList_u64s {ops : Array Oper} {rest : List Oper} {o : Oper} {a : Act} {w : World} {Q : Exit → Act → World → Prop} (hg : o.guard = none) (l c : Operand) (hop : o.op = Op.makeSlice 64 l c) (n : Nat) (hn : n ≤ 1048576) (hl : a.eval l = .int .i64 (n : Int)) (hc : a.eval c = .int .i64 (n : Int))
    (hK : ∀ w', Blk w' w.heap.size 70 (nus .u64 (List.replicate n 0)).toArray → Below w.heap.size w w' → wpList Tryd.prog ops Q rest (a.put o.dst (.slice (some ⟨w.heap.size, 0, none⟩) n n)) w') : wpList Tryd.prog ops Q (o :: rest) a w := by
  refine wpList_plain hg fun K hK' => ?_
  obtain ⟨w', hrun, r1, r2⟩ := run_u64s n hn w
  unfold Oper.wp
  simp [execOp, hop, hl, hc, hrun, Result.andThen]
  exact hK' _ _ (hK w' r1 r2)
theorem builtF (gf N gW L : Nat) : Tryd.prog.built 66 [(0, .pointer (some ⟨gf, 0, none⟩)), (1, .int .i64 (N : Int)), (2, .slice (some ⟨gW, 0, none⟩) L L)] = some (flt gf N gW L) := by kernel_rfl
set_option maxRecDepth 100000 in
set_option maxHeartbeats 4000000 in
theorem bnew_nil (n : Int) (w : World) :
    Calls Tryd.prog 10 #[.pointer none, .int .i64 n] w fun e w' => e = .returned (.tuple #[.pointer none, .int .i64 1]) ∧ Below w.heap.size w w' := by
  have K := Lib.hid (Below.refl w.heap.size w)
  have hq := eqp2_nil
  go_enter Tryd.func10, Tryd.ntmps10
  go_wp2
  go_ret2
  exact ⟨rfl, K.out⟩
set_option maxRecDepth 100000 in
set_option maxHeartbeats 4000000 in
theorem bnew_no (n : Int) (g : Nat) (h : n < 1 ∨ n > 65536) (w : World) :
    Calls Tryd.prog 10 #[.pointer (some ⟨g, 0, none⟩), .int .i64 n] w fun e w' => e = .returned (.tuple #[.pointer none, .int .i64 1]) ∧ Below w.heap.size w w' := by
  have K := Lib.hid (Below.refl w.heap.size w)
  have hq := eqp2_some
  by_cases h1 : n < 1
  · have d1 : decide (n < 1) = true := decide_eq_true h1
    clear h h1
    go_enter Tryd.func10, Tryd.ntmps10
    go_wp2
    go_ret2
    exact ⟨rfl, K.out⟩
  · have d1 : decide (n < 1) = false := decide_eq_false h1
    have d2 : decide (n > 65536) = true := decide_eq_true (by omega)
    clear h h1
    go_enter Tryd.func10, Tryd.ntmps10
    go_wp2
    go_ret2
    exact ⟨rfl, K.out⟩
set_option maxRecDepth 100000 in
set_option maxHeartbeats 4000000 in
theorem bnew_yes (N g : Nat) (h1 : 1 ≤ N) (h2 : N ≤ 65536) (w : World) :
    Calls Tryd.prog 10 #[.pointer (some ⟨g, 0, none⟩), .int .i64 (N : Int)] w fun e w' => (∃ gF gW L, e = .returned (.tuple #[.pointer (some ⟨gF, 0, none⟩), .int .i64 0]) ∧ w.heap.size ≤ gW ∧ gW < gF ∧ N ≤ 64 * L ∧ L ≤ 1024 ∧ Blk w' gF 66 (flt g N gW L) ∧ Blk w' gW 70 (nus .u64 (wrds 0 L)).toArray) ∧ Below w.heap.size w w' := by
  have K := Lib.hid (Below.refl w.heap.size w)
  have hq := eqp2_some
  have d1 : decide ((N : Int) < 1) = false := decide_eq_false (by omega)
  have d2 : decide ((N : Int) > 65536) = false := decide_eq_false (by omega)
  have d3 : decide (N < 1) = false := decide_eq_false (by omega)
  have d4 : decide (N > 65536) = false := decide_eq_false (by omega)
  have d5 : decide (65536 < N) = false := decide_eq_false (by omega)
  obtain ⟨L, hL⟩ : ∃ L, L = (N + 63) / 64 := ⟨_, rfl⟩
  have w1 : IntKind.i64.wrap ((N : Int) + 64) = (N : Int) + 64 := by rw [IntKind.wrap_i64]; omega
  have w2 : IntKind.i64.wrap ((N : Int) + 64 - 1) = ((N + 63 : Nat) : Int) := by rw [IntKind.wrap_i64]; omega
  have w3 : IntKind.i64.wrap (((N + 63 : Nat) : Int) / 64) = (L : Int) := by rw [IntKind.wrap_i64]; omega
  have w4 : IntKind.i64.wrap (((N : Int) + 63) / 64) = (L : Int) := by rw [IntKind.wrap_i64]; omega
  have w5 : ((N : Int) + 63) / 64 = (L : Int) := by omega
  have HL := Lib.hid (show N ≤ 64 * L ∧ L ≤ 1024 by omega)
  have hnm : L ≤ 1048576 := by omega
  clear hL
  have hBu := builtF
  have HWZ := Lib.hid (wrds_zero L)
  go_enter Tryd.func10, Tryd.ntmps10
  go_wp2_with (at_make; refine wpList_u64s rfl _ _ rfl L hnm (congrArg (Value.int IntKind.i64) w5) (congrArg (Value.int IntKind.i64) w5) ?_)
  intro W hZ hy
  rw [← HWZ.out] at hZ
  obtain ⟨gW, hgW⟩ : ∃ gW, gW = w.heap.size := ⟨_, rfl⟩
  rw [← hgW] at hZ ⊢
  have HZ := Lib.hid hZ
  have HK := Lib.hid hy
  have qS := hZ.lt
  have HG := Lib.hid hgW
  clear hZ hy hgW
  clear hBu
  go_wp2
  go_ret2
  refine ⟨⟨W.heap.size, gW, L, rfl, by have := HG.out; omega, qS, HL.out.1, HL.out.2, Blk.new W 66 (flt g N gW L), HZ.out.alloc _⟩, HK.out.alloc HK.out.size _⟩
set_option maxRecDepth 100000 in
set_option maxHeartbeats 4000000 in
theorem count_nil (w : World) :
    Calls Tryd.prog 19 #[.pointer none] w fun e w' => e = .returned (.int .i64 0) ∧ Below w.heap.size w w' := by
  have K := Lib.hid (Below.refl w.heap.size w)
  have hq := eqp_nil
  go_enter Tryd.func19, Tryd.ntmps19
  go_wp2
  go_ret
  exact ⟨rfl, K.out⟩
set_option maxRecDepth 100000 in
set_option maxHeartbeats 4000000 in
theorem count_any (gf gF gW N L M : Nat) (hL : N ≤ 64 * L) (hL2 : L ≤ 1024) (hU : Under M N) (w : World) (hB : Blk w gF 66 (flt gf N gW L)) (hW : Blk w gW 70 (nus .u64 (wrds M L)).toArray) :
    Calls Tryd.prog 19 #[.pointer (some ⟨gF, 0, none⟩)] w fun e w' => e = .returned (.int .i64 ((bitsL M N).length : Int)) ∧ Below w.heap.size w w' := by
  rw [← bitsL_under M (64 * L) N hU hL]
  have K := Lib.hid (Below.refl w.heap.size w)
  have B := Lib.hid hB
  have Z := Lib.hid hW
  obtain ⟨fb0, fb1, fb2⟩ := flt_get gf N gW L
  have FB2 := Lib.hid fb2
  clear fb0 fb1 fb2 hB hW hU hL
  generalize flt gf N gW L = fl at *
  have hq := eqp_some
  have HL := Lib.hid (wrds_len M L)
  go_enter Tryd.func19, Tryd.ntmps19
  have L1 := (B.out.cell 2).trans FB2.out
  go_wp2
  go_loopw [13, 3] (fun i a wr => ∃ j : Nat, j ≤ L ∧ i = .int .i64 (j : Int) ∧ a = .int .i64 ((bitsL M (64 * j)).length : Int) ∧ Hid (Blk wr gW 70 (nus .u64 (wrds M L)).toArray) ∧ Hid (Below w.heap.size w wr)) (fun i _ _ => L - (RowKit.intOf i).toNat)
  case atStart => exact ⟨0, by omega, rfl, rfl, Z, K⟩
  case round =>
    obtain ⟨j, hj, rfl, rfl, Zr, Kr⟩ := hrel
    clear B Z K
    by_cases hlt : j < L
    · have d8 : decide ((j : Int) < (L : Int)) = true := decide_eq_true (by omega)
      have d9 : decide (j < L) = true := decide_eq_true (by omega)
      have hb2 : 0 ≤ (j : Int) ∧ (j : Int) < (L : Int) := by omega
      have cw := Zr.out.cell j
      rw [nusa_at _ _ _ (by rw [HL.out]; exact hlt), wrds_get M L j hlt] at cw
      have CO := Lib.hid (fun W => ones64_all (wrd M j) (wrd_lt M j) W)
      have h1 := bitsL_le M (64 * j)
      have h2 := bitsL_le (wrd M j) 64
      have hs := len_words M j
      obtain ⟨l2, hl2⟩ : ∃ l2, l2 = (bitsL M (64 * (j + 1))).length := ⟨_, rfl⟩
      rw [← hl2] at hs
      have HS := Lib.hid hl2
      clear hl2
      generalize (bitsL M (64 * j)).length = l1 at *
      generalize (bitsL (wrd M j) 64).length = lw at *
      generalize wrd M j = x at *
      have w6 : IntKind.i64.wrap ((l1 : Int) + (lw : Int)) = (l2 : Int) := by rw [IntKind.wrap_i64]; omega
      clear hs h1 h2
      go_wp2_with fail
      refine (CO.out wr).mono ?_
      rintro e V2 ⟨rfl, rfl⟩
      go_wp2
      go_roundw
      case rel => exact ⟨j + 1, Nat.succ_le_of_lt hlt, by go_num, by rw [HS.out], Zr, Kr⟩
      case measure => simp [RowKit.intOf]; omega
    · obtain rfl : j = L := by omega
      have d8 : decide (((j : Nat) : Int) < (j : Int)) = false := decide_eq_false (by omega)
      have d9 : decide (j < j) = false := decide_eq_false (by omega)
      go_wp2
      go_ret
      exact ⟨rfl, Kr.out⟩
theorem gb_sets (g : Nat) : ∀ (vs : List Value) (o : Nat) (A B : World), A.grownBy B (some g) → A.grownBy (B.setCells g o vs) (some g)
  | [], _, _, _, h => h
  | v :: r, o, A, B, h => gb_sets g r (o + 1) A (B.setCell ⟨g, o, none⟩ v) (gb_set h o v)
theorem zero70 (W : World) : (zeroValue 70).run Tryd.prog W = .ok (.int .u64 0) W := by kernel_rfl
set_option maxRecDepth 100000 in
set_option maxHeartbeats 4000000 in
theorem clear_any (gf gF gW N L M : Nat) (h0 : 0 < N) (hL : N ≤ 64 * L) (w : World) (hB : Blk w gF 66 (flt gf N gW L)) (hW : Blk w gW 70 (nus .u64 (wrds M L)).toArray) :
    Calls Tryd.prog 11 #[.pointer (some ⟨gF, 0, none⟩)] w fun e w' => (∃ v, e = .returned v) ∧ Blk w' gW 70 (nus .u64 (wrds 0 L)).toArray ∧ w.grownBy w' (some gW) := by
  have hl := wrds_len M L
  have hcl := run_clear_slice (P := Tryd.prog) w 64 70 0 (.int .u64 0) Tryd.underlying64 zero70 rfl rfl gW 0 L L (by omega) (fun j hj => by rw [Nat.zero_add, hW.cell j, nusa_at _ _ _ (by omega)]; rfl) (fun j _ => hW.frozen _)
  have hg := gb_sets gW (List.replicate L (Value.int .u64 0)) 0 w w (gb_of (Below.refl _ _) gW)
  have hb := hW.setCells (List.replicate L (Value.int .u64 0)) 0 w _
  have hb2 := Blk.setCells (List.replicate L (Value.int .u64 0)) 0 w _ hW
  have e : setL (nus .u64 (wrds M L)).toArray 0 (List.replicate L (Value.int .u64 0)) = (nus .u64 (wrds 0 L)).toArray := by
    rw [wrds_zero]
    have := setL_all (nus .u64 (wrds M L)).toArray (nus .u64 (List.replicate L 0)).toArray (by simp [nus, hl])
    rw [← this]
    congr 1
    simp [nus]
  rw [e] at hb2
  have G := Lib.hid hg
  have HB := Lib.hid hb2
  generalize w.setCells gW 0 (List.replicate L (Value.int .u64 0)) = V at *
  have c2 : w.cell? ⟨gF, 2, none⟩ = some (.slice (some ⟨gW, 0, none⟩) L L) := hB.cell 2
  have hq := eqp_some
  clear hg hb hb2 e hl hB hW
  go_enter Tryd.func11, Tryd.ntmps11
  go_wp2
  refine bodyPost_end (results_none rfl _ _ _) rfl ⟨⟨_, rfl⟩, HB.out, G.out⟩
end Go.Proofs.YtcgaibkpdihncaaDoor
