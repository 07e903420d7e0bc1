/- GridEnds' walk. -/
import Derived.Test.YtimnmdeiiahakaaS19w
import Derived.Test.YtimnmdeiiahakaaS19q
import Derived.Deep.CutBlock
import Derived.Deep.DeepCutAuto
import Derived.LoopTactic
import Derived.Handy
namespace Go.Proofs.Ytimnmdeiiahakaa
open Go.RowKit Go.Lib

theorem ends_put (st sz : Nat) (a b : Int) (v : Int) : lkP st sz (ptP st sz (fun _ => none) a b (some v)) a b = if decide (inP st sz a b) then some v else none := by
  by_cases h : inP st sz a b
  · rw [if_pos (decide_eq_true h)]
    obtain ⟨s, i, rfl, rfl, h1, h2⟩ := inP_nat h
    rw [ptP_in _ h1 h2, lkP_in _ h1 h2, putC_at]
  · rw [if_neg (by simpa using h), lkP_no _ h]
theorem ends_len (st sz : Nat) (a b : Int) (v : Int) : (itF (ptP st sz (fun _ => none) a b (some v)) 0 (st * sz)).length = if decide (inP st sz a b) then 1 else 0 := by
  by_cases h : inP st sz a b
  · rw [if_pos (decide_eq_true h)]
    obtain ⟨s, i, rfl, rfl, h1, h2⟩ := inP_nat h
    rw [ptP_in _ h1 h2, itF_one _ _ _ (num_lt h1 h2)]; rfl
  · rw [if_neg (by simpa using h), ptP_no _ h, itF_none]; rfl
theorem ends_free (st sz : Nat) (a b : Int) (v : Int) : ptP st sz (ptP st sz (fun _ => none) a b (some v)) a b none = fun _ => none := by
  by_cases h : inP st sz a b
  · obtain ⟨s, i, rfl, rfl, h1, h2⟩ := inP_nat h
    rw [ptP_in _ h1 h2, ptP_in _ h1 h2]
    funext j
    unfold putC
    split <;> rfl
  · rw [ptP_no _ h, ptP_no _ h]
theorem eq24 (p : Addr) (W : World) : (binOp .eql 24 (.pointer (some p)) (.pointer none)).run Try.prog W = .ok (.bool false) W := by kernel_rfl
set_option maxRecDepth 100000 in
set_option maxHeartbeats 4000000 in
theorem ends_walk (st0 sz0 a b : Int) (w : World) :
    Calls Try.prog 5 #[.int .i64 st0, .int .i64 sz0, .agg (plA a b)] w fun e w' => e = .returned (.bool true) ∧ Below w.heap.size w w' := by
  have K := Lib.hid (Below.refl w.heap.size w)
  have AW := Lib.hid awake_any
  have PI := Lib.hid (plA_i a b)
  obtain ⟨p0, p1⟩ := plA_get a b
  have P0 := Lib.hid p0
  have P1 := Lib.hid p1
  clear p0 p1
  by_cases h0 : st0 < 1
  · have e0a : decide (st0 < 1) = true := decide_eq_true (by omega)
    clear P0 P1 h0
    go_enter Try.func5, Try.ntmps5
    have hal := (Below.refl w.heap.size w).alloc (Nat.le_refl _) (.cells (plA a b) 30)
    replace K := Lib.hid (K.out.trans (hal.mono K.out.size))
    have P := Lib.hid (Blk.new w 30 (plA a b))
    clear hal
    go_wp2_with fail
    have hzV1 : Hid ((w.alloc (.cells (plA a b) 30)).heap.size = w.heap.size + 1) := by show _ = _; simp only [World.size_alloc]
    generalize (w.alloc (.cells (plA a b) 30)) = V1 at *
    refine (AW.out V1).mono ?_
    rintro e V2 ⟨rfl, hy⟩
    replace K := Lib.hid (K.out.trans (hy.mono K.out.size))
    replace P := Lib.hid (P.out.below hy P.out.lt)
    clear hy
    go_wp2
    go_ret
    exact ⟨rfl, K.out⟩
  by_cases h1 : st0 > 4
  · have e0a : decide (st0 < 1) = false := decide_eq_false (by omega)
    have e1a : decide (st0 > 4) = true := decide_eq_true (by omega)
    have e1b : decide (4 < st0) = true := decide_eq_true (by omega)
    clear P0 P1 h0 h1
    go_enter Try.func5, Try.ntmps5
    have hal := (Below.refl w.heap.size w).alloc (Nat.le_refl _) (.cells (plA a b) 30)
    replace K := Lib.hid (K.out.trans (hal.mono K.out.size))
    have P := Lib.hid (Blk.new w 30 (plA a b))
    clear hal
    go_wp2_with fail
    have hzV1 : Hid ((w.alloc (.cells (plA a b) 30)).heap.size = w.heap.size + 1) := by show _ = _; simp only [World.size_alloc]
    generalize (w.alloc (.cells (plA a b) 30)) = V1 at *
    refine (AW.out V1).mono ?_
    rintro e V2 ⟨rfl, hy⟩
    replace K := Lib.hid (K.out.trans (hy.mono K.out.size))
    replace P := Lib.hid (P.out.below hy P.out.lt)
    clear hy
    go_wp2
    go_ret
    exact ⟨rfl, K.out⟩
  by_cases h2 : sz0 < 1
  · have e0a : decide (st0 < 1) = false := decide_eq_false (by omega)
    have e1a : decide (st0 > 4) = false := decide_eq_false (by omega)
    have e1b : decide (4 < st0) = false := decide_eq_false (by omega)
    have e2a : decide (sz0 < 1) = true := decide_eq_true (by omega)
    clear P0 P1 h0 h1 h2
    go_enter Try.func5, Try.ntmps5
    have hal := (Below.refl w.heap.size w).alloc (Nat.le_refl _) (.cells (plA a b) 30)
    replace K := Lib.hid (K.out.trans (hal.mono K.out.size))
    have P := Lib.hid (Blk.new w 30 (plA a b))
    clear hal
    go_wp2_with fail
    have hzV1 : Hid ((w.alloc (.cells (plA a b) 30)).heap.size = w.heap.size + 1) := by show _ = _; simp only [World.size_alloc]
    generalize (w.alloc (.cells (plA a b) 30)) = V1 at *
    refine (AW.out V1).mono ?_
    rintro e V2 ⟨rfl, hy⟩
    replace K := Lib.hid (K.out.trans (hy.mono K.out.size))
    replace P := Lib.hid (P.out.below hy P.out.lt)
    clear hy
    go_wp2
    go_ret
    exact ⟨rfl, K.out⟩
  by_cases h3 : sz0 > 1024
  · have e0a : decide (st0 < 1) = false := decide_eq_false (by omega)
    have e1a : decide (st0 > 4) = false := decide_eq_false (by omega)
    have e1b : decide (4 < st0) = false := decide_eq_false (by omega)
    have e2a : decide (sz0 < 1) = false := decide_eq_false (by omega)
    have e3a : decide (sz0 > 1024) = true := decide_eq_true (by omega)
    have e3b : decide (1024 < sz0) = true := decide_eq_true (by omega)
    clear P0 P1 h0 h1 h2 h3
    go_enter Try.func5, Try.ntmps5
    have hal := (Below.refl w.heap.size w).alloc (Nat.le_refl _) (.cells (plA a b) 30)
    replace K := Lib.hid (K.out.trans (hal.mono K.out.size))
    have P := Lib.hid (Blk.new w 30 (plA a b))
    clear hal
    go_wp2_with fail
    have hzV1 : Hid ((w.alloc (.cells (plA a b) 30)).heap.size = w.heap.size + 1) := by show _ = _; simp only [World.size_alloc]
    generalize (w.alloc (.cells (plA a b) 30)) = V1 at *
    refine (AW.out V1).mono ?_
    rintro e V2 ⟨rfl, hy⟩
    replace K := Lib.hid (K.out.trans (hy.mono K.out.size))
    replace P := Lib.hid (P.out.below hy P.out.lt)
    clear hy
    go_wp2
    go_ret
    exact ⟨rfl, K.out⟩
  obtain ⟨st, rfl⟩ : ∃ s : Nat, st0 = (s : Int) := ⟨st0.toNat, by omega⟩
  obtain ⟨sz, rfl⟩ : ∃ s : Nat, sz0 = (s : Int) := ⟨sz0.toNat, by omega⟩
  obtain ⟨s1, hs1⟩ : ∃ s : Nat, st = s + 1 := ⟨st - 1, by omega⟩
  obtain ⟨z1, hz1⟩ : ∃ s : Nat, sz = s + 1 := ⟨sz - 1, by omega⟩
  have f0 : decide ((st : Int) < 1) = false := decide_eq_false (by omega)
  have f1 : decide ((st : Int) > 4) = false := decide_eq_false (by omega)
  have f2 : decide ((sz : Int) < 1) = false := decide_eq_false (by omega)
  have f3 : decide ((sz : Int) > 1024) = false := decide_eq_false (by omega)
  have g0 : decide (st < 1) = false := decide_eq_false (by omega)
  have g1 : decide (st > 4) = false := decide_eq_false (by omega)
  have g2 : decide (sz < 1) = false := decide_eq_false (by omega)
  have g3 : decide (sz > 1024) = false := decide_eq_false (by omega)
  have g4 : decide (4 < st) = false := decide_eq_false (by omega)
  have g5 : decide (1024 < sz) = false := decide_eq_false (by omega)
  have w1 : IntKind.i64.wrap ((st : Int) - 1) = (s1 : Int) := by rw [IntKind.wrap_i64]; omega
  have w2 : IntKind.i64.wrap ((sz : Int) - 1) = (z1 : Int) := by rw [IntKind.wrap_i64]; omega
  have CN := Lib.hid (fun W => newI_yes st sz (by omega) (by omega) (by omega) (by omega) W)
  have CS := Lib.hid (fun B W h => setI_any B st sz (fun _ => none) a b 5 W h)
  have CG := Lib.hid (fun B W h => getI_any B st sz (ptP st sz (fun _ => none) a b (some 5)) a b W h)
  have CL := Lib.hid (fun B W h => lenI_any B st sz (ptP st sz (fun _ => none) a b (some 5)) W h)
  have CF := Lib.hid (fun B W h => freeI_any B st sz (ptP st sz (fun _ => none) a b (some 5)) a b W h)
  rw [ends_put] at CG
  rw [ends_len] at CL
  rw [ends_put, ends_free] at CF
  have CL0 := Lib.hid (fun B W h => lenI_any B st sz (fun _ => none) W h)
  rw [itF_none] at CL0
  have CI := Lib.hid (fun B c W h => inI_any B st sz c a b W h)
  have CIL := Lib.hid (fun B W h => (show Calls Try.prog 14 #[.pointer (some ⟨B + 1, 0, none⟩), .agg #[.int .i64 (s1 : Int), .int .i64 (z1 : Int)]] W fun e w' => e = .returned (.bool true) ∧ Below W.heap.size W w' from inI_yes B st sz (fun _ => none) s1 z1 (by unfold inP; omega) W h))
  have CI1 := Lib.hid (fun B W h => (show Calls Try.prog 14 #[.pointer (some ⟨B + 1, 0, none⟩), .agg #[.int .i64 (st : Int), .int .i64 0]] W fun e w' => e = .returned (.bool false) ∧ Below W.heap.size W w' from inI_hi B st sz (fun _ => none) st 0 (by omega) W h))
  have CI2 := Lib.hid (fun B W h => (show Calls Try.prog 14 #[.pointer (some ⟨B + 1, 0, none⟩), .agg #[.int .i64 0, .int .i64 (sz : Int)]] W fun e w' => e = .returned (.bool false) ∧ Below W.heap.size W w' from inI_bhi B st sz (fun _ => none) 0 sz (by omega) W h))
  have CSL := Lib.hid (fun B W h => (show Calls Try.prog 10 #[.pointer (some ⟨B + 1, 0, none⟩), .agg #[.int .i64 (s1 : Int), .int .i64 (z1 : Int)], .int .i64 1] W fun e w' => e = .returned (.bool true) ∧ GdI B st sz (putC (fun _ => none) (s1 * sz + z1) (some 1)) w' ∧ Apart B (2 + st) W w' from setI_in B st sz (fun _ => none) s1 z1 (by omega) (by omega) 1 W h))
  have IL := Lib.hid (plA_i (s1 : Int) (z1 : Int))
  unfold plA at IL
  obtain ⟨q, hq0⟩ : ∃ q, q = decide (inP st sz a b) := ⟨_, rfl⟩
  rw [← hq0] at CS CG CL CF CI
  have HQ := Lib.hid hq0
  clear hq0 hs1 hz1
  generalize plA a b = pc at *
  generalize (fun _ : Nat => (none : Option Int)) = c0 at *
  generalize ptP st sz c0 a b (some 5) = c1 at *
  have hq := eq24
  go_enter Try.func5, Try.ntmps5
  have hal := (Below.refl w.heap.size w).alloc (Nat.le_refl _) (.cells pc 30)
  replace K := Lib.hid (K.out.trans (hal.mono K.out.size))
  have P := Lib.hid (Blk.new w 30 pc)
  clear hal
  go_wp2_with fail
  have hzV1 : Hid ((w.alloc (.cells pc 30)).heap.size = w.heap.size + 1) := by show _ = _; simp only [World.size_alloc]
  generalize (w.alloc (.cells pc 30)) = V1 at *
  obtain ⟨B, hB⟩ : ∃ B, B = V1.heap.size := ⟨_, rfl⟩
  have hB1 := K.out.size
  have hB3 := P.out.lt
  refine (CN.out V1).mono ?_
  rintro e V2 ⟨rfl, hg, hy⟩
  replace K := Lib.hid (K.out.trans (hy.mono K.out.size))
  replace P := Lib.hid (P.out.below hy P.out.lt)
  have HG := Lib.hid (hg)
  rw [← hB] at HG ⊢
  clear hg
  clear hy
  have hB2 : w.heap.size < B := by omega
  clear hB hB1 hB3
  go_upto_region 6 with fail
  go_cut [9] (fun v wx => v = .bool q ∧ GdI B st sz c0 wx ∧ Blk wx w.heap.size 30 pc ∧ Below w.heap.size w wx)
  case first => as_aux_lemma =>
    clear CN CS CG CL CF CL0 CI CIL CI1 CI2 CSL AW
    by_cases k0 : a < 0
    · have hqf : q = false := by rw [HQ.out]; exact decide_eq_false (by unfold inP; omega)
      have c1 : decide (a ≥ 0) = false := decide_eq_false (by omega)
      have c2 : decide (0 ≤ a) = false := decide_eq_false (by omega)
      clear k0
      subst hqf
      have L1 := (P.out.cell 0).trans P0.out
      go_wp2
      go_meet
      exact ⟨rfl, HG.out, P.out, K.out⟩
    by_cases k1 : (st : Int) ≤ a
    · have hqf : q = false := by rw [HQ.out]; exact decide_eq_false (by unfold inP; omega)
      have c1 : decide (a ≥ 0) = true := decide_eq_true (by omega)
      have c2 : decide (0 ≤ a) = true := decide_eq_true (by omega)
      have c3 : decide (a < (st : Int)) = false := decide_eq_false (by omega)
      clear k0 k1
      subst hqf
      have L2 := (P.out.cell 0).trans P0.out
      have L3 := (P.out.cell 0).trans P0.out
      go_wp2
      go_meet
      exact ⟨rfl, HG.out, P.out, K.out⟩
    by_cases k2 : b < 0
    · have hqf : q = false := by rw [HQ.out]; exact decide_eq_false (by unfold inP; omega)
      have c1 : decide (a ≥ 0) = true := decide_eq_true (by omega)
      have c2 : decide (0 ≤ a) = true := decide_eq_true (by omega)
      have c3 : decide (a < (st : Int)) = true := decide_eq_true (by omega)
      have c4 : decide (b ≥ 0) = false := decide_eq_false (by omega)
      have c5 : decide (0 ≤ b) = false := decide_eq_false (by omega)
      clear k0 k1 k2
      subst hqf
      have L4 := (P.out.cell 0).trans P0.out
      have L5 := (P.out.cell 0).trans P0.out
      have L6 := (P.out.cell 1).trans P1.out
      go_wp2
      go_meet
      exact ⟨rfl, HG.out, P.out, K.out⟩
    by_cases k3 : (sz : Int) ≤ b
    · have hqf : q = false := by rw [HQ.out]; exact decide_eq_false (by unfold inP; omega)
      have c1 : decide (a ≥ 0) = true := decide_eq_true (by omega)
      have c2 : decide (0 ≤ a) = true := decide_eq_true (by omega)
      have c3 : decide (a < (st : Int)) = true := decide_eq_true (by omega)
      have c4 : decide (b ≥ 0) = true := decide_eq_true (by omega)
      have c5 : decide (0 ≤ b) = true := decide_eq_true (by omega)
      have c6 : decide (b < (sz : Int)) = false := decide_eq_false (by omega)
      clear k0 k1 k2 k3
      subst hqf
      have L7 := (P.out.cell 0).trans P0.out
      have L8 := (P.out.cell 0).trans P0.out
      have L9 := (P.out.cell 1).trans P1.out
      have L10 := (P.out.cell 1).trans P1.out
      go_wp2
      go_meet
      exact ⟨rfl, HG.out, P.out, K.out⟩
    have hqf : q = true := by rw [HQ.out]; exact decide_eq_true (by unfold inP; omega)
    have c1 : decide (a ≥ 0) = true := decide_eq_true (by omega)
    have c2 : decide (0 ≤ a) = true := decide_eq_true (by omega)
    have c3 : decide (a < (st : Int)) = true := decide_eq_true (by omega)
    have c4 : decide (b ≥ 0) = true := decide_eq_true (by omega)
    have c5 : decide (0 ≤ b) = true := decide_eq_true (by omega)
    have c6 : decide (b < (sz : Int)) = true := decide_eq_true (by omega)
    clear k0 k1 k2 k3
    subst hqf
    have L11 := (P.out.cell 0).trans P0.out
    have L12 := (P.out.cell 0).trans P0.out
    have L13 := (P.out.cell 1).trans P1.out
    have L14 := (P.out.cell 1).trans P1.out
    go_wp2
    go_meet
    exact ⟨rfl, HG.out, P.out, K.out⟩
  case rest => as_aux_lemma =>
    clear HG P K P0 P1
    obtain ⟨rfl, hG, hP, hK⟩ := hcut
    have HG := Lib.hid hG
    have P := Lib.hid hP
    have K := Lib.hid hK
    clear hG hP hK HQ CN
    cases q with
    | true =>
      have L15 : (loadVar 30 ⟨w.heap.size, 0, none⟩).run Try.prog wc = .ok (.agg pc) wc := run_blk_load (P := Try.prog) 30 (w.heap.size) _ P.out Try.underlying30 rfl PI.out
      replace L15 := Lib.hid L15
      go_wp2_with (((with_reducible refine wpList_load_want (op := ⟨some 65, .load 30 (.tmp 5), _, _, _, _⟩) ?wg15 30 (.tmp 5) ?wo15 ⟨w.heap.size, 0, none⟩ ?wx15 (.agg pc) L15.out ?_); (case wg15 => rfl); (case wo15 => rfl); (case wx15 => rfl)))
      clear L15
      refine (CS.out B wc HG.out).mono ?_
      rintro e V101 ⟨rfl, hg, ha⟩
      replace P := Lib.hid (ha.blk P.out (by omega))
      replace K := Lib.hid (K.out.trans (ha.below (by omega) K.out.size))
      replace HG := Lib.hid hg
      clear hg
      clear ha
      have L16 : (loadVar 30 ⟨w.heap.size, 0, none⟩).run Try.prog V101 = .ok (.agg pc) V101 := run_blk_load (P := Try.prog) 30 (w.heap.size) _ P.out Try.underlying30 rfl PI.out
      replace L16 := Lib.hid L16
      go_wp2_with (((with_reducible refine wpList_load_want (op := ⟨some 69, .load 30 (.tmp 5), _, _, _, _⟩) ?wg16 30 (.tmp 5) ?wo16 ⟨w.heap.size, 0, none⟩ ?wx16 (.agg pc) L16.out ?_); (case wg16 => rfl); (case wo16 => rfl); (case wx16 => rfl)))
      clear L16
      refine (CG.out B V101 HG.out).mono ?_
      rintro e V102 ⟨rfl, hy⟩
      replace HG := Lib.hid (HG.out.below hy)
      replace P := Lib.hid (P.out.below hy P.out.lt)
      replace K := Lib.hid (K.out.trans (hy.mono K.out.size))
      clear hy
      go_wp2_with fail
      refine (CL.out B V102 HG.out).mono ?_
      rintro e V103 ⟨rfl, hy⟩
      replace HG := Lib.hid (HG.out.below hy)
      replace P := Lib.hid (P.out.below hy P.out.lt)
      replace K := Lib.hid (K.out.trans (hy.mono K.out.size))
      clear hy
      have L17 : (loadVar 30 ⟨w.heap.size, 0, none⟩).run Try.prog V103 = .ok (.agg pc) V103 := run_blk_load (P := Try.prog) 30 (w.heap.size) _ P.out Try.underlying30 rfl PI.out
      replace L17 := Lib.hid L17
      go_wp2_with (((with_reducible refine wpList_load_want (op := ⟨some 76, .load 30 (.tmp 5), _, _, _, _⟩) ?wg17 30 (.tmp 5) ?wo17 ⟨w.heap.size, 0, none⟩ ?wx17 (.agg pc) L17.out ?_); (case wg17 => rfl); (case wo17 => rfl); (case wx17 => rfl)))
      clear L17
      refine (CF.out B V103 HG.out).mono ?_
      rintro e V104 ⟨rfl, hg, ha⟩
      replace P := Lib.hid (ha.blk P.out (by omega))
      replace K := Lib.hid (K.out.trans (ha.below (by omega) K.out.size))
      replace HG := Lib.hid hg
      clear hg
      clear ha
      go_upto_region 12 with fail
      have hl := HG.out.lt
      obtain ⟨gL, hgL⟩ : ∃ g, g = V104.heap.size := ⟨_, rfl⟩
      have hL1 : B + 2 + st ≤ gL := by omega
      have hal := (Below.refl V104.heap.size V104).alloc (Nat.le_refl _) (.cells #[.int .i64 (s1 : Int), .int .i64 (z1 : Int)] 30)
      have pb := Blk.new V104 30 #[.int .i64 (s1 : Int), .int .i64 (z1 : Int)]
      rw [← hgL] at pb ⊢
      have LB := Lib.hid pb
      replace K := Lib.hid (K.out.trans (hal.mono K.out.size))
      replace HG := Lib.hid (HG.out.below hal)
      replace P := Lib.hid (P.out.below hal P.out.lt)
      clear hl hgL hal pb
      generalize V104.alloc (.cells #[.int .i64 (s1 : Int), .int .i64 (z1 : Int)] 30) = Vb at *
      have L18 : (loadVar 30 ⟨w.heap.size, 0, none⟩).run Try.prog Vb = .ok (.agg pc) Vb := run_blk_load (P := Try.prog) 30 (w.heap.size) _ P.out Try.underlying30 rfl PI.out
      replace L18 := Lib.hid L18
      go_wp2_with (((with_reducible refine wpList_load_want (op := ⟨some 85, .load 30 (.tmp 5), _, _, _, _⟩) ?wg18 30 (.tmp 5) ?wo18 ⟨w.heap.size, 0, none⟩ ?wx18 (.agg pc) L18.out ?_); (case wg18 => rfl); (case wo18 => rfl); (case wx18 => rfl)))
      clear L18
      refine (CI.out B _ Vb HG.out).mono ?_
      rintro e V105 ⟨rfl, hy⟩
      replace HG := Lib.hid (HG.out.below hy)
      replace P := Lib.hid (P.out.below hy P.out.lt)
      replace K := Lib.hid (K.out.trans (hy.mono K.out.size))
      replace LB := Lib.hid (LB.out.below hy LB.out.lt)
      clear hy
      go_wp2_with fail
      refine (CL0.out B V105 HG.out).mono ?_
      rintro e V106 ⟨rfl, hy⟩
      replace HG := Lib.hid (HG.out.below hy)
      replace P := Lib.hid (P.out.below hy P.out.lt)
      replace K := Lib.hid (K.out.trans (hy.mono K.out.size))
      replace LB := Lib.hid (LB.out.below hy LB.out.lt)
      clear hy
      have L19 : (loadVar 30 ⟨gL, 0, none⟩).run Try.prog V106 = .ok (.agg #[.int .i64 (s1 : Int), .int .i64 (z1 : Int)]) V106 := run_blk_load (P := Try.prog) 30 (gL) _ LB.out Try.underlying30 rfl IL.out
      replace L19 := Lib.hid L19
      go_wp2_with (((with_reducible refine wpList_load_want (op := ⟨some 122, .load 30 (.tmp 15), _, _, _, _⟩) ?wg19 30 (.tmp 15) ?wo19 ⟨gL, 0, none⟩ ?wx19 (.agg #[.int .i64 (s1 : Int), .int .i64 (z1 : Int)]) L19.out ?_); (case wg19 => rfl); (case wo19 => rfl); (case wx19 => rfl)))
      clear L19
      refine (CIL.out B V106 HG.out).mono ?_
      rintro e V107 ⟨rfl, hy⟩
      replace HG := Lib.hid (HG.out.below hy)
      replace P := Lib.hid (P.out.below hy P.out.lt)
      replace K := Lib.hid (K.out.trans (hy.mono K.out.size))
      replace LB := Lib.hid (LB.out.below hy LB.out.lt)
      clear hy
      go_wp2_with fail
      refine (CI1.out B V107 HG.out).mono ?_
      rintro e V108 ⟨rfl, hy⟩
      replace HG := Lib.hid (HG.out.below hy)
      replace P := Lib.hid (P.out.below hy P.out.lt)
      replace K := Lib.hid (K.out.trans (hy.mono K.out.size))
      replace LB := Lib.hid (LB.out.below hy LB.out.lt)
      clear hy
      go_wp2_with fail
      refine (CI2.out B V108 HG.out).mono ?_
      rintro e V109 ⟨rfl, hy⟩
      replace HG := Lib.hid (HG.out.below hy)
      replace P := Lib.hid (P.out.below hy P.out.lt)
      replace K := Lib.hid (K.out.trans (hy.mono K.out.size))
      replace LB := Lib.hid (LB.out.below hy LB.out.lt)
      clear hy
      have L20 : (loadVar 30 ⟨gL, 0, none⟩).run Try.prog V109 = .ok (.agg #[.int .i64 (s1 : Int), .int .i64 (z1 : Int)]) V109 := run_blk_load (P := Try.prog) 30 (gL) _ LB.out Try.underlying30 rfl IL.out
      replace L20 := Lib.hid L20
      go_wp2_with (((with_reducible refine wpList_load_want (op := ⟨some 141, .load 30 (.tmp 15), _, _, _, _⟩) ?wg20 30 (.tmp 15) ?wo20 ⟨gL, 0, none⟩ ?wx20 (.agg #[.int .i64 (s1 : Int), .int .i64 (z1 : Int)]) L20.out ?_); (case wg20 => rfl); (case wo20 => rfl); (case wx20 => rfl)))
      clear L20
      refine (CSL.out B V109 HG.out).mono ?_
      rintro e V110 ⟨rfl, hg, ha⟩
      replace P := Lib.hid (ha.blk P.out (by omega))
      replace K := Lib.hid (K.out.trans (ha.below (by omega) K.out.size))
      replace LB := Lib.hid (ha.blk LB.out (by omega))
      replace HG := Lib.hid hg
      clear hg
      clear ha
      go_wp2_with fail
      refine (AW.out V110).mono ?_
      rintro e V111 ⟨rfl, hy⟩
      replace HG := Lib.hid (HG.out.below hy)
      replace P := Lib.hid (P.out.below hy P.out.lt)
      replace K := Lib.hid (K.out.trans (hy.mono K.out.size))
      replace LB := Lib.hid (LB.out.below hy LB.out.lt)
      clear hy
      go_wp2
      go_ret
      exact ⟨rfl, K.out⟩
    | false =>
      have L21 : (loadVar 30 ⟨w.heap.size, 0, none⟩).run Try.prog wc = .ok (.agg pc) wc := run_blk_load (P := Try.prog) 30 (w.heap.size) _ P.out Try.underlying30 rfl PI.out
      replace L21 := Lib.hid L21
      go_wp2_with (((with_reducible refine wpList_load_want (op := ⟨some 65, .load 30 (.tmp 5), _, _, _, _⟩) ?wg21 30 (.tmp 5) ?wo21 ⟨w.heap.size, 0, none⟩ ?wx21 (.agg pc) L21.out ?_); (case wg21 => rfl); (case wo21 => rfl); (case wx21 => rfl)))
      clear L21
      refine (CS.out B wc HG.out).mono ?_
      rintro e V101 ⟨rfl, hg, ha⟩
      replace P := Lib.hid (ha.blk P.out (by omega))
      replace K := Lib.hid (K.out.trans (ha.below (by omega) K.out.size))
      replace HG := Lib.hid hg
      clear hg
      clear ha
      have L22 : (loadVar 30 ⟨w.heap.size, 0, none⟩).run Try.prog V101 = .ok (.agg pc) V101 := run_blk_load (P := Try.prog) 30 (w.heap.size) _ P.out Try.underlying30 rfl PI.out
      replace L22 := Lib.hid L22
      go_wp2_with (((with_reducible refine wpList_load_want (op := ⟨some 69, .load 30 (.tmp 5), _, _, _, _⟩) ?wg22 30 (.tmp 5) ?wo22 ⟨w.heap.size, 0, none⟩ ?wx22 (.agg pc) L22.out ?_); (case wg22 => rfl); (case wo22 => rfl); (case wx22 => rfl)))
      clear L22
      refine (CG.out B V101 HG.out).mono ?_
      rintro e V102 ⟨rfl, hy⟩
      replace HG := Lib.hid (HG.out.below hy)
      replace P := Lib.hid (P.out.below hy P.out.lt)
      replace K := Lib.hid (K.out.trans (hy.mono K.out.size))
      clear hy
      go_wp2_with fail
      refine (CL.out B V102 HG.out).mono ?_
      rintro e V103 ⟨rfl, hy⟩
      replace HG := Lib.hid (HG.out.below hy)
      replace P := Lib.hid (P.out.below hy P.out.lt)
      replace K := Lib.hid (K.out.trans (hy.mono K.out.size))
      clear hy
      have L23 : (loadVar 30 ⟨w.heap.size, 0, none⟩).run Try.prog V103 = .ok (.agg pc) V103 := run_blk_load (P := Try.prog) 30 (w.heap.size) _ P.out Try.underlying30 rfl PI.out
      replace L23 := Lib.hid L23
      go_wp2_with (((with_reducible refine wpList_load_want (op := ⟨some 76, .load 30 (.tmp 5), _, _, _, _⟩) ?wg23 30 (.tmp 5) ?wo23 ⟨w.heap.size, 0, none⟩ ?wx23 (.agg pc) L23.out ?_); (case wg23 => rfl); (case wo23 => rfl); (case wx23 => rfl)))
      clear L23
      refine (CF.out B V103 HG.out).mono ?_
      rintro e V104 ⟨rfl, hg, ha⟩
      replace P := Lib.hid (ha.blk P.out (by omega))
      replace K := Lib.hid (K.out.trans (ha.below (by omega) K.out.size))
      replace HG := Lib.hid hg
      clear hg
      clear ha
      go_upto_region 12 with fail
      have hl := HG.out.lt
      obtain ⟨gL, hgL⟩ : ∃ g, g = V104.heap.size := ⟨_, rfl⟩
      have hL1 : B + 2 + st ≤ gL := by omega
      have hal := (Below.refl V104.heap.size V104).alloc (Nat.le_refl _) (.cells #[.int .i64 (s1 : Int), .int .i64 (z1 : Int)] 30)
      have pb := Blk.new V104 30 #[.int .i64 (s1 : Int), .int .i64 (z1 : Int)]
      rw [← hgL] at pb ⊢
      have LB := Lib.hid pb
      replace K := Lib.hid (K.out.trans (hal.mono K.out.size))
      replace HG := Lib.hid (HG.out.below hal)
      replace P := Lib.hid (P.out.below hal P.out.lt)
      clear hl hgL hal pb
      generalize V104.alloc (.cells #[.int .i64 (s1 : Int), .int .i64 (z1 : Int)] 30) = Vb at *
      have L24 : (loadVar 30 ⟨w.heap.size, 0, none⟩).run Try.prog Vb = .ok (.agg pc) Vb := run_blk_load (P := Try.prog) 30 (w.heap.size) _ P.out Try.underlying30 rfl PI.out
      replace L24 := Lib.hid L24
      go_wp2_with (((with_reducible refine wpList_load_want (op := ⟨some 85, .load 30 (.tmp 5), _, _, _, _⟩) ?wg24 30 (.tmp 5) ?wo24 ⟨w.heap.size, 0, none⟩ ?wx24 (.agg pc) L24.out ?_); (case wg24 => rfl); (case wo24 => rfl); (case wx24 => rfl)))
      clear L24
      refine (CI.out B _ Vb HG.out).mono ?_
      rintro e V105 ⟨rfl, hy⟩
      replace HG := Lib.hid (HG.out.below hy)
      replace P := Lib.hid (P.out.below hy P.out.lt)
      replace K := Lib.hid (K.out.trans (hy.mono K.out.size))
      replace LB := Lib.hid (LB.out.below hy LB.out.lt)
      clear hy
      go_wp2_with fail
      refine (CL0.out B V105 HG.out).mono ?_
      rintro e V106 ⟨rfl, hy⟩
      replace HG := Lib.hid (HG.out.below hy)
      replace P := Lib.hid (P.out.below hy P.out.lt)
      replace K := Lib.hid (K.out.trans (hy.mono K.out.size))
      replace LB := Lib.hid (LB.out.below hy LB.out.lt)
      clear hy
      have L25 : (loadVar 30 ⟨gL, 0, none⟩).run Try.prog V106 = .ok (.agg #[.int .i64 (s1 : Int), .int .i64 (z1 : Int)]) V106 := run_blk_load (P := Try.prog) 30 (gL) _ LB.out Try.underlying30 rfl IL.out
      replace L25 := Lib.hid L25
      go_wp2_with (((with_reducible refine wpList_load_want (op := ⟨some 122, .load 30 (.tmp 15), _, _, _, _⟩) ?wg25 30 (.tmp 15) ?wo25 ⟨gL, 0, none⟩ ?wx25 (.agg #[.int .i64 (s1 : Int), .int .i64 (z1 : Int)]) L25.out ?_); (case wg25 => rfl); (case wo25 => rfl); (case wx25 => rfl)))
      clear L25
      refine (CIL.out B V106 HG.out).mono ?_
      rintro e V107 ⟨rfl, hy⟩
      replace HG := Lib.hid (HG.out.below hy)
      replace P := Lib.hid (P.out.below hy P.out.lt)
      replace K := Lib.hid (K.out.trans (hy.mono K.out.size))
      replace LB := Lib.hid (LB.out.below hy LB.out.lt)
      clear hy
      go_wp2_with fail
      refine (CI1.out B V107 HG.out).mono ?_
      rintro e V108 ⟨rfl, hy⟩
      replace HG := Lib.hid (HG.out.below hy)
      replace P := Lib.hid (P.out.below hy P.out.lt)
      replace K := Lib.hid (K.out.trans (hy.mono K.out.size))
      replace LB := Lib.hid (LB.out.below hy LB.out.lt)
      clear hy
      go_wp2_with fail
      refine (CI2.out B V108 HG.out).mono ?_
      rintro e V109 ⟨rfl, hy⟩
      replace HG := Lib.hid (HG.out.below hy)
      replace P := Lib.hid (P.out.below hy P.out.lt)
      replace K := Lib.hid (K.out.trans (hy.mono K.out.size))
      replace LB := Lib.hid (LB.out.below hy LB.out.lt)
      clear hy
      have L26 : (loadVar 30 ⟨gL, 0, none⟩).run Try.prog V109 = .ok (.agg #[.int .i64 (s1 : Int), .int .i64 (z1 : Int)]) V109 := run_blk_load (P := Try.prog) 30 (gL) _ LB.out Try.underlying30 rfl IL.out
      replace L26 := Lib.hid L26
      go_wp2_with (((with_reducible refine wpList_load_want (op := ⟨some 141, .load 30 (.tmp 15), _, _, _, _⟩) ?wg26 30 (.tmp 15) ?wo26 ⟨gL, 0, none⟩ ?wx26 (.agg #[.int .i64 (s1 : Int), .int .i64 (z1 : Int)]) L26.out ?_); (case wg26 => rfl); (case wo26 => rfl); (case wx26 => rfl)))
      clear L26
      refine (CSL.out B V109 HG.out).mono ?_
      rintro e V110 ⟨rfl, hg, ha⟩
      replace P := Lib.hid (ha.blk P.out (by omega))
      replace K := Lib.hid (K.out.trans (ha.below (by omega) K.out.size))
      replace LB := Lib.hid (ha.blk LB.out (by omega))
      replace HG := Lib.hid hg
      clear hg
      clear ha
      go_wp2_with fail
      refine (AW.out V110).mono ?_
      rintro e V111 ⟨rfl, hy⟩
      replace HG := Lib.hid (HG.out.below hy)
      replace P := Lib.hid (P.out.below hy P.out.lt)
      replace K := Lib.hid (K.out.trans (hy.mono K.out.size))
      replace LB := Lib.hid (LB.out.below hy LB.out.lt)
      clear hy
      go_wp2
      go_ret
      exact ⟨rfl, K.out⟩
end Go.Proofs.Ytimnmdeiiahakaa
