/- grid.New, of each kind. -/
import Derived.Test.YtimnmdeiiahakaaS19e
import Derived.Deep.CutBlock
import Derived.Deep.DeepCutAuto
import Derived.LoopTactic
import Derived.Handy
namespace Go.Proofs.Ytimnmdeiiahakaa
open Go.RowKit Go.Lib

/-- The stages' headers while they are made: j of them. -/
def hdrJ (B sz st j : Nat) : List Value := (List.range st).map fun s => if s < j then Value.slice (some ⟨B + 2 + s, 0, none⟩) sz sz else .slice none 0 0
theorem hdrJ_len (B sz st j : Nat) : (hdrJ B sz st j).length = st := by unfold hdrJ; simp
theorem hdrJ_all (B sz st : Nat) : hdrJ B sz st st = hdr B sz st := by
  unfold hdrJ hdr
  refine List.map_congr_left fun s hs => ?_
  rw [if_pos (List.mem_range.mp hs)]
theorem hdrJ_zero (B sz st : Nat) : hdrJ B sz st 0 = List.replicate st (.slice none 0 0) := by
  unfold hdrJ
  simp [List.map_const']
theorem hdrJ_get (B sz st j : Nat) (h : j < st) : (hdrJ B sz st j).toArray[j]? = some (.slice none 0 0) := by
  unfold hdrJ; simp [List.getElem?_range h]
theorem hdrJ_next (B sz st j : Nat) : (hdrJ B sz st j).toArray.setIfInBounds j (.slice (some ⟨B + 2 + j, 0, none⟩) sz sz) = (hdrJ B sz st (j + 1)).toArray := by
  apply Array.ext_getElem?
  intro i
  rw [Array.getElem?_setIfInBounds]
  unfold hdrJ
  simp only [List.size_toArray, List.length_map, List.length_range, List.getElem?_toArray, List.getElem?_map]
  by_cases hi : i < st
  · rw [List.getElem?_range hi]
    by_cases h : j = i
    · subst h; rw [if_pos rfl, if_pos hi, Option.map_some, if_pos (by omega)]
    · rw [if_neg h, Option.map_some, Option.map_some]
      by_cases h2 : i < j
      · rw [if_pos h2, if_pos (by omega)]
      · rw [if_neg h2, if_neg (by omega)]
  · rw [List.getElem?_eq_none (by simp; omega)]
    by_cases h : j = i
    · subst h; rw [if_pos rfl, if_neg hi]; rfl
    · rw [if_neg h]; rfl
theorem made_row {α : Type} (enc : Option α → List Value) (m : Nat) (he : ∀ o, (enc o).length = m) (hm : 0 < m) (a n : Nat) : madeCells (enc none).toArray (n * m) = (rowC enc (fun _ => none) a n).toArray := by
  apply Array.ext_getElem?
  intro j
  rw [List.getElem?_toArray (xs := rowC enc (fun _ => none) a n)]
  have hl := rowC_len enc m he (fun _ => none) a n
  by_cases hj : j < n * m
  · have hq : j / m < n := Nat.div_lt_of_lt_mul (by rw [Nat.mul_comm]; exact hj)
    have hr : j % m < m := Nat.mod_lt _ hm
    have ej := Nat.div_add_mod' j m
    have g := rowC_get enc m he (fun _ => none) a n (j / m) (j % m) hq hr
    rw [ej] at g
    rw [g]
    unfold madeCells
    rw [Array.getElem?_map, Array.getElem?_range, if_pos hj, Option.map_some, List.size_toArray, he]
    have h1 : j % m < (enc none).length := by rw [he]; exact hr
    rw [List.getElem?_eq_getElem h1]
    simp [h1]
  · rw [List.getElem?_eq_none (by omega), Array.getElem?_eq_none (by rw [size_madeCells]; omega)]
theorem made_hdr (B sz st : Nat) : madeCells #[Value.slice none 0 0] (st * 1) = (hdrJ B sz st 0).toArray := by
  rw [Nat.mul_one, hdrJ_zero, ← toList_madeCells_one, Array.toArray_toList]
theorem wp_mk {P : Program} {o : Oper} {a : Act} {w : World} {K : Act → World → Prop} {Q : Exit → Act → World → Prop} (t e : TypeId) (z : Value) (m : Nat) (l c : Operand) (hop : o.op = Op.makeSlice t l c) (hu : P.underlying t = some (.slice e)) (bb : Nat) (hi : (P.info? e).map (fun i => (i.zero, i.size, i.bytes)) = some (some z, m, bb)) (hb : bb ≤ 24)
    (n : Nat) (hn : n ≤ 1048576) (hl : a.eval l = .int .i64 (n : Int)) (hc : a.eval c = .int .i64 (n : Int))
    (hK : K (a.put o.dst (.slice (some ⟨w.heap.size, 0, none⟩) n n)) (w.alloc (.cells (madeCells z.cells (n * m)) e))) : Oper.wp P o a w K Q := by
  obtain ⟨i, hi, hz, hs, hy⟩ := info_parts hi
  have hbb : (i.bytes : Int) * (n : Int) ≤ 281474976710656 := by
    rw [hy]
    have : bb * n ≤ 24 * 1048576 := Nat.mul_le_mul hb hn
    have h2 : ((bb * n : Nat) : Int) ≤ 281474976710656 := by omega
    rwa [Int.natCast_mul] at h2
  have hrun := run_make (P := P) w t e i z hu hi hz .i64 .i64 n n (by omega) (Int.le_refl _) hbb (by omega)
  simp only [Int.toNat_natCast, hs] at hrun
  unfold Oper.wp
  simp only [execOp, hop, hl, hc, hrun, Sem.run_bind, Result.andThen_ok, Sem.run_pure]
  exact hK
theorem wpList_mk {P : Program} {ops : Array Oper} {rest : List Oper} {o : Oper} {a : Act} {w : World} {Q : Exit → Act → World → Prop} (hg : o.guard = none) (t e : TypeId) (z : Value) (m : Nat) (l c : Operand) (hop : o.op = Op.makeSlice t l c) (hu : P.underlying t = some (.slice e)) (bb : Nat) (hi : (P.info? e).map (fun i => (i.zero, i.size, i.bytes)) = some (some z, m, bb)) (hb : bb ≤ 24)
    (n : Nat) (hn : n ≤ 1048576) (hl : a.eval l = .int .i64 (n : Int)) (hc : a.eval c = .int .i64 (n : Int))
    (hK : wpList P ops Q rest (a.put o.dst (.slice (some ⟨w.heap.size, 0, none⟩) n n)) (w.alloc (.cells (madeCells z.cells (n * m)) e))) : wpList P ops Q (o :: rest) a w :=
  wpList_plain hg fun _ hK' => wp_mk t e z m l c hop hu bb hi hb n hn hl hc (hK' _ _ hK)
theorem infCI : (Try.prog.info? 72).map (fun i => (i.zero, i.size, i.bytes)) = some (some (.agg (encI none).toArray), 2, 16) := by kernel_rfl
theorem infRI : (Try.prog.info? 68).map (fun i => (i.zero, i.size, i.bytes)) = some (some (.slice none 0 0), 1, 24) := by kernel_rfl
theorem builtGI (B st : Nat) : Try.prog.built 67 [(0, .slice (some ⟨B, 0, none⟩) st st)] = some (grC B st 0) := by kernel_rfl
theorem infCA : (Try.prog.info? 83).map (fun i => (i.zero, i.size, i.bytes)) = some (some (.agg (encA none).toArray), 3, 24) := by kernel_rfl
theorem infRA : (Try.prog.info? 79).map (fun i => (i.zero, i.size, i.bytes)) = some (some (.slice none 0 0), 1, 24) := by kernel_rfl
theorem builtGA (B st : Nat) : Try.prog.built 78 [(0, .slice (some ⟨B, 0, none⟩) st st)] = some (grC B st 0) := by kernel_rfl
theorem infCS : (Try.prog.info? 91).map (fun i => (i.zero, i.size, i.bytes)) = some (some (.agg (encS none).toArray), 2, 24) := by kernel_rfl
theorem infRS : (Try.prog.info? 87).map (fun i => (i.zero, i.size, i.bytes)) = some (some (.slice none 0 0), 1, 24) := by kernel_rfl
theorem builtGS (B st : Nat) : Try.prog.built 86 [(0, .slice (some ⟨B, 0, none⟩) st st)] = some (grC B st 0) := by kernel_rfl
/-- A grid that is being made: j stages so far. -/
structure MK {α : Type} (tG tR tC : TypeId) (enc : Option α → List Value) (B st sz j : Nat) (W : World) : Prop where
  size : W.heap.size = B + 2 + j
  G : Blk W (B + 1) tG (grC B st 0)
  R : Blk W B tR (hdrJ B sz st j).toArray
  C : ∀ s, s < j → Blk W (B + 2 + s) tC (rowC enc (fun _ => none) (s * sz) sz).toArray
set_option maxRecDepth 100000 in
set_option maxHeartbeats 4000000 in
theorem newI_no (st sz : Int) (h : ¬ (1 ≤ st ∧ st ≤ 4 ∧ 1 ≤ sz ∧ sz ≤ 1024)) (w : World) :
    Calls Try.prog 8 #[.int .i64 st, .int .i64 sz] w fun e w' => e = .returned (.tuple #[.pointer none, .int .i64 1]) ∧ Below w.heap.size w w' := by
  have K := Lib.hid (Below.refl w.heap.size w)
  by_cases h0 : st < 1
  · have d0 : decide (st < 1) = true := decide_eq_true h0
    clear h h0
    go_enter Try.func8, Try.ntmps8
    go_wp2
    go_ret2
    exact ⟨rfl, K.out⟩
  by_cases h1 : st > 4
  · have d0 : decide (st < 1) = false := decide_eq_false h0
    have d1 : decide (st > 4) = true := decide_eq_true h1
    clear h h0 h1
    go_enter Try.func8, Try.ntmps8
    go_wp2
    go_ret2
    exact ⟨rfl, K.out⟩
  by_cases h2 : sz < 1
  · have d0 : decide (st < 1) = false := decide_eq_false h0
    have d1 : decide (st > 4) = false := decide_eq_false h1
    have d2 : decide (sz < 1) = true := decide_eq_true h2
    clear h h0 h1 h2
    go_enter Try.func8, Try.ntmps8
    go_wp2
    go_ret2
    exact ⟨rfl, K.out⟩
  by_cases h3 : sz > 1024
  · have d0 : decide (st < 1) = false := decide_eq_false h0
    have d1 : decide (st > 4) = false := decide_eq_false h1
    have d2 : decide (sz < 1) = false := decide_eq_false h2
    have d3 : decide (sz > 1024) = true := decide_eq_true h3
    clear h h0 h1 h2 h3
    go_enter Try.func8, Try.ntmps8
    go_wp2
    go_ret2
    exact ⟨rfl, K.out⟩
  · exact absurd ⟨by omega, by omega, by omega, by omega⟩ h
set_option maxRecDepth 100000 in
set_option maxHeartbeats 4000000 in
theorem newI_yes (st sz : Nat) (h1 : 1 ≤ st) (h2 : st ≤ 4) (h3 : 1 ≤ sz) (h4 : sz ≤ 1024) (w : World) :
    Calls Try.prog 8 #[.int .i64 (st : Int), .int .i64 (sz : Int)] w fun e w' => e = .returned (.tuple #[.pointer (some ⟨w.heap.size + 1, 0, none⟩), .int .i64 0]) ∧ GdI w.heap.size st sz (fun _ => none) w' ∧ Below w.heap.size w w' := by
  have K := Lib.hid (Below.refl w.heap.size w)
  have d0 : decide ((st : Int) < 1) = false := decide_eq_false (by omega)
  have e0 : decide (st < 1) = false := decide_eq_false (by omega)
  have d1 : decide ((st : Int) > 4) = false := decide_eq_false (by omega)
  have e1 : decide (st > 4) = false := decide_eq_false (by omega)
  have d2 : decide ((sz : Int) < 1) = false := decide_eq_false (by omega)
  have e2 : decide (sz < 1) = false := decide_eq_false (by omega)
  have d3 : decide ((sz : Int) > 1024) = false := decide_eq_false (by omega)
  have e3 : decide (sz > 1024) = false := decide_eq_false (by omega)
  have e4 : decide (4 < st) = false := decide_eq_false (by omega)
  have e5 : decide (1024 < sz) = false := decide_eq_false (by omega)
  have hBu := Lib.hid builtGI
  go_enter Try.func8, Try.ntmps8
  go_wp2_with (first | (at_make; refine wpList_mk rfl _ 68 (.slice none 0 0) 1 _ _ rfl Try.underlying65 24 infRI (by decide) st (by omega) rfl rfl ?_))
  obtain ⟨V, hV⟩ : ∃ V, V = (w.alloc (.cells (madeCells #[Value.slice none 0 0] st) 68)).alloc (.cells #[.slice (some ⟨w.heap.size, 0, none⟩) st st, .int .i64 0] 67) := ⟨_, rfl⟩
  rw [← hV]
  have hmd := made_hdr w.heap.size sz st
  rw [Nat.mul_one] at hmd
  have m0 : MK 67 68 72 encI w.heap.size st sz 0 V := by
    rw [hV, hmd]
    refine ⟨by simp, ?_, ?_, fun s hs => absurd hs (Nat.not_lt_zero _)⟩
    · have := Blk.new (w.alloc (.cells (hdrJ w.heap.size sz st 0).toArray 68)) 67 (grC w.heap.size st 0)
      simp only [World.size_alloc] at this
      exact this
    · exact (Blk.new w 68 (hdrJ w.heap.size sz st 0).toArray).alloc _
  have M0 := Lib.hid m0
  have K0 : Hid (Below w.heap.size w V) := by
    show Below _ _ _
    rw [hV]
    exact ((Below.refl w.heap.size w).alloc (Nat.le_refl _) _).alloc (by simp) _
  obtain ⟨B, hB⟩ : ∃ B, B = w.heap.size := ⟨_, rfl⟩
  rw [← hB] at M0 K0 ⊢
  have HB := Lib.hid hB
  clear hmd m0 hV K hB hBu
  go_loopw [31] (fun i wr => ∃ j : Nat, j ≤ st ∧ i = .int .i64 (j : Int) ∧ Hid (MK 67 68 72 encI B st sz j wr) ∧ Hid (Below B w wr)) (fun i _ => st - (RowKit.intOf i).toNat)
  case atStart => exact ⟨0, by omega, rfl, M0, K0⟩
  case round =>
    obtain ⟨j, hj, rfl, Mr, Kr⟩ := hrel
    clear M0 K0
    by_cases hlt : j < st
    · have d8 : decide ((j : Int) < (st : Int)) = true := decide_eq_true (by omega)
      have d9 : decide (j < st) = true := decide_eq_true (by omega)
      have w6 : IntKind.i64.wrap ((j : Int) + 1) = ((j + 1 : Nat) : Int) := by rw [IntKind.wrap_i64]; omega
      have hb2 : 0 ≤ (j : Int) ∧ (j : Int) < (st : Int) := by omega
      go_upto_region 7 with fail
      refine wp_region_held (S := (fun w' : World => Blk w' (B + 1) 67 (grC B st 0))) (by kernel_rfl) ?_
      change wpAnyH _ _ _ _ _ _ _ _ wr.drew
      have Md : Hid (MK 67 68 72 encI B st sz j wr.drew) := ⟨Mr.out.size, Mr.out.G.drew, Mr.out.R.drew, fun s h => (Mr.out.C s h).drew⟩
      have Kd : Hid (Below B w wr.drew) := Kr.out.drew
      clear Mr Kr
      generalize wr.drew = Y0 at *
      have SG := Lib.hid Md.out.G
      refine tkA 0 (?_) ?_ SG.out ?_
      rotate_left
      · (intro w1 hS; go_simp; try with_reducible rfl)
      simp only [Act.put, tS1, tS2, tS3]
      refine tkA 1 (?_) ?_ SG.out ?_
      rotate_left
      · (intro w1 hS; go_simp; try with_reducible rfl)
      simp only [Act.put, tS1, tS2, tS3]
      refine tkA 2 (?_) ?_ SG.out ?_
      rotate_left
      · (intro w1 hS; go_simp; try with_reducible rfl)
      simp only [Act.put, tS1, tS2, tS3]
      refine tkA 3 (?_) ?_ SG.out ?_
      rotate_left
      · (intro w1 hS; have q := (hS.cell 0).trans (grC_get B st 0).1; clear hS; go_simp; try with_reducible rfl)
      simp only [Act.put, tS1, tS2, tS3]
      refine tkA 4 (?_) ?_ SG.out ?_
      rotate_left
      · (intro w1 hS; go_simp; try with_reducible rfl)
      simp only [Act.put, tS1, tS2, tS3]
      refine tkA 5 (?_) ?_ SG.out ?_
      rotate_left
      · (intro w1 hS; go_simp; try with_reducible rfl)
      simp only [Act.put, tS1, tS2, tS3]
      refine tkO 6 (fun KK hK => ?_)
      rw [if_pos (by rfl)]
      refine wp_mk _ 72 (.agg (encI none).toArray) 2 _ _ rfl Try.underlying68 16 infCI (by decide) sz (by omega) rfl rfl ?_
      rw [show (.agg (encI none).toArray : Value).cells = (encI none).toArray from rfl, made_row encI 2 encI_len (by decide) (j * sz) sz]
      obtain ⟨Y1, hY1⟩ : ∃ Y, Y = Y0.alloc (.cells (rowC encI (fun _ => none) (j * sz) sz).toArray 72) := ⟨_, rfl⟩
      rw [← hY1]
      have hal : Below Y0.heap.size Y0 Y1 := hY1 ▸ (Below.refl Y0.heap.size Y0).alloc (Nat.le_refl _) _
      have hnw : Blk Y1 Y0.heap.size 72 (rowC encI (fun _ => none) (j * sz) sz).toArray := hY1 ▸ Blk.new Y0 _ _
      have hsz : Y1.heap.size = B + 2 + (j + 1) := by rw [hY1, World.size_alloc, Md.out.size, Nat.add_assoc (B + 2)]
      have e0 := Md.out.size
      rw [e0] at hnw
      have Kx := Lib.hid (Kd.out.trans (hal.mono (by omega)))
      have NW := Lib.hid hnw
      have RR := Lib.hid (Md.out.R.below hal (by omega))
      have CCs := Lib.hid (fun s (h : s < j) => (Md.out.C s h).below hal (by omega))
      have HSZ := Lib.hid hsz
      rw [e0]
      have G2 := Lib.hid (SG.out.below hal (by omega))
      clear hal hnw hsz hY1 Kd Md SG e0
      have SG := G2
      clear G2
      refine hK.out _ _ SG.out (fun _ => ?_)
      clear hK KK
      simp only [Act.put, tS1, tS2, tS3]
      refine tkA 7 (?_) ?_ SG.out ?_
      rotate_left
      · (intro w1 hS; go_simp; try with_reducible rfl)
      simp only [Act.put, tS1, tS2, tS3]
      refine tkO 8 (fun KK hK => ?_)
      have k1 := (RR.out.cell j).trans (hdrJ_get B sz st j hlt)
      have k2 := RR.out.frozen j
      go_simp
      have R2 := Lib.hid (RR.out.set_ j (.slice (some ⟨B + 2 + j, 0, none⟩) sz sz))
      rw [hdrJ_next] at R2
      have hst := (Below.refl 0 Y1).setCell (p := ⟨B, j, none⟩) (Nat.zero_le _) (.slice (some ⟨B + 2 + j, 0, none⟩) sz sz)
      have G2 := Lib.hid (SG.out.far (p := ⟨B, j, none⟩) (by show B + 1 ≠ B; omega) (.slice (some ⟨B + 2 + j, 0, none⟩) sz sz))
      have N2 := Lib.hid (NW.out.far (p := ⟨B, j, none⟩) (by show B + 2 + j ≠ B; omega) (.slice (some ⟨B + 2 + j, 0, none⟩) sz sz))
      have C2 := Lib.hid (fun s (h : s < j) => (CCs.out s h).far (p := ⟨B, j, none⟩) (by show B + 2 + s ≠ B; omega) (.slice (some ⟨B + 2 + j, 0, none⟩) sz sz))
      have K2 := Lib.hid (Kx.out.setCell (p := ⟨B, j, none⟩) (by show B ≤ B; omega) (.slice (some ⟨B + 2 + j, 0, none⟩) sz sz))
      have S2 : Hid ((Y1.setCell ⟨B, j, none⟩ (.slice (some ⟨B + 2 + j, 0, none⟩) sz sz)).heap.size = B + 2 + (j + 1)) := by show _ = _; rw [← HSZ.out]; exact Array.size_modify ..
      clear k1 k2 hst Kx RR CCs HSZ NW SG
      generalize Y1.setCell ⟨B, j, none⟩ (.slice (some ⟨B + 2 + j, 0, none⟩) sz sz) = Y2 at *
      refine hK.out _ _ G2.out (fun _ => ?_)
      clear hK KK
      try simp only [Act.put, tS1, tS2, tS3]
      refine wpAnyH_done (by kernel_rfl) ?_ _
      have MM : Hid (MK 67 68 72 encI B st sz (j + 1) Y2) := ⟨S2.out, G2.out, R2.out, fun s hs => by
        by_cases e : s = j
        · subst e; exact N2.out
        · exact C2.out s (by omega)⟩
      clear S2 G2 R2 N2 C2
      go_wp2
      go_roundw
      case rel => exact ⟨j + 1, Nat.succ_le_of_lt hlt, by go_num, MM, K2⟩
      case measure => simp [RowKit.intOf]; omega
    · obtain rfl : j = st := by omega
      have d8 : decide (((j : Nat) : Int) < (j : Int)) = false := decide_eq_false (by omega)
      have d9 : decide (j < j) = false := decide_eq_false (by omega)
      go_wp2
      go_ret2
      rw [← HB.out]
      exact ⟨rfl, ⟨by rw [itF_none]; exact Mr.out.G, by rw [← hdrJ_all]; exact Mr.out.R, Mr.out.C, h1, h2, h3, h4⟩, Kr.out⟩
set_option maxRecDepth 100000 in
set_option maxHeartbeats 4000000 in
theorem newA_yes (st sz : Nat) (h1 : 1 ≤ st) (h2 : st ≤ 4) (h3 : 1 ≤ sz) (h4 : sz ≤ 1024) (w : World) :
    Calls Try.prog 16 #[.int .i64 (st : Int), .int .i64 (sz : Int)] w fun e w' => e = .returned (.tuple #[.pointer (some ⟨w.heap.size + 1, 0, none⟩), .int .i64 0]) ∧ GdA w.heap.size st sz (fun _ => none) w' ∧ Below w.heap.size w w' := by
  have K := Lib.hid (Below.refl w.heap.size w)
  have d0 : decide ((st : Int) < 1) = false := decide_eq_false (by omega)
  have e0 : decide (st < 1) = false := decide_eq_false (by omega)
  have d1 : decide ((st : Int) > 4) = false := decide_eq_false (by omega)
  have e1 : decide (st > 4) = false := decide_eq_false (by omega)
  have d2 : decide ((sz : Int) < 1) = false := decide_eq_false (by omega)
  have e2 : decide (sz < 1) = false := decide_eq_false (by omega)
  have d3 : decide ((sz : Int) > 1024) = false := decide_eq_false (by omega)
  have e3 : decide (sz > 1024) = false := decide_eq_false (by omega)
  have e4 : decide (4 < st) = false := decide_eq_false (by omega)
  have e5 : decide (1024 < sz) = false := decide_eq_false (by omega)
  have hBu := Lib.hid builtGA
  go_enter Try.func16, Try.ntmps16
  go_wp2_with (first | (at_make; refine wpList_mk rfl _ 79 (.slice none 0 0) 1 _ _ rfl Try.underlying76 24 infRA (by decide) st (by omega) rfl rfl ?_))
  obtain ⟨V, hV⟩ : ∃ V, V = (w.alloc (.cells (madeCells #[Value.slice none 0 0] st) 79)).alloc (.cells #[.slice (some ⟨w.heap.size, 0, none⟩) st st, .int .i64 0] 78) := ⟨_, rfl⟩
  rw [← hV]
  have hmd := made_hdr w.heap.size sz st
  rw [Nat.mul_one] at hmd
  have m0 : MK 78 79 83 encA w.heap.size st sz 0 V := by
    rw [hV, hmd]
    refine ⟨by simp, ?_, ?_, fun s hs => absurd hs (Nat.not_lt_zero _)⟩
    · have := Blk.new (w.alloc (.cells (hdrJ w.heap.size sz st 0).toArray 79)) 78 (grC w.heap.size st 0)
      simp only [World.size_alloc] at this
      exact this
    · exact (Blk.new w 79 (hdrJ w.heap.size sz st 0).toArray).alloc _
  have M0 := Lib.hid m0
  have K0 : Hid (Below w.heap.size w V) := by
    show Below _ _ _
    rw [hV]
    exact ((Below.refl w.heap.size w).alloc (Nat.le_refl _) _).alloc (by simp) _
  obtain ⟨B, hB⟩ : ∃ B, B = w.heap.size := ⟨_, rfl⟩
  rw [← hB] at M0 K0 ⊢
  have HB := Lib.hid hB
  clear hmd m0 hV K hB hBu
  go_loopw [31] (fun i wr => ∃ j : Nat, j ≤ st ∧ i = .int .i64 (j : Int) ∧ Hid (MK 78 79 83 encA B st sz j wr) ∧ Hid (Below B w wr)) (fun i _ => st - (RowKit.intOf i).toNat)
  case atStart => exact ⟨0, by omega, rfl, M0, K0⟩
  case round =>
    obtain ⟨j, hj, rfl, Mr, Kr⟩ := hrel
    clear M0 K0
    by_cases hlt : j < st
    · have d8 : decide ((j : Int) < (st : Int)) = true := decide_eq_true (by omega)
      have d9 : decide (j < st) = true := decide_eq_true (by omega)
      have w6 : IntKind.i64.wrap ((j : Int) + 1) = ((j + 1 : Nat) : Int) := by rw [IntKind.wrap_i64]; omega
      have hb2 : 0 ≤ (j : Int) ∧ (j : Int) < (st : Int) := by omega
      go_upto_region 7 with fail
      refine wp_region_held (S := (fun w' : World => Blk w' (B + 1) 78 (grC B st 0))) (by kernel_rfl) ?_
      change wpAnyH _ _ _ _ _ _ _ _ wr.drew
      have Md : Hid (MK 78 79 83 encA B st sz j wr.drew) := ⟨Mr.out.size, Mr.out.G.drew, Mr.out.R.drew, fun s h => (Mr.out.C s h).drew⟩
      have Kd : Hid (Below B w wr.drew) := Kr.out.drew
      clear Mr Kr
      generalize wr.drew = Y0 at *
      have SG := Lib.hid Md.out.G
      refine tkA 0 (?_) ?_ SG.out ?_
      rotate_left
      · (intro w1 hS; go_simp; try with_reducible rfl)
      simp only [Act.put, tS1, tS2, tS3]
      refine tkA 1 (?_) ?_ SG.out ?_
      rotate_left
      · (intro w1 hS; go_simp; try with_reducible rfl)
      simp only [Act.put, tS1, tS2, tS3]
      refine tkA 2 (?_) ?_ SG.out ?_
      rotate_left
      · (intro w1 hS; go_simp; try with_reducible rfl)
      simp only [Act.put, tS1, tS2, tS3]
      refine tkA 3 (?_) ?_ SG.out ?_
      rotate_left
      · (intro w1 hS; have q := (hS.cell 0).trans (grC_get B st 0).1; clear hS; go_simp; try with_reducible rfl)
      simp only [Act.put, tS1, tS2, tS3]
      refine tkA 4 (?_) ?_ SG.out ?_
      rotate_left
      · (intro w1 hS; go_simp; try with_reducible rfl)
      simp only [Act.put, tS1, tS2, tS3]
      refine tkA 5 (?_) ?_ SG.out ?_
      rotate_left
      · (intro w1 hS; go_simp; try with_reducible rfl)
      simp only [Act.put, tS1, tS2, tS3]
      refine tkO 6 (fun KK hK => ?_)
      rw [if_pos (by rfl)]
      refine wp_mk _ 83 (.agg (encA none).toArray) 3 _ _ rfl Try.underlying79 24 infCA (by decide) sz (by omega) rfl rfl ?_
      rw [show (.agg (encA none).toArray : Value).cells = (encA none).toArray from rfl, made_row encA 3 encA_len (by decide) (j * sz) sz]
      obtain ⟨Y1, hY1⟩ : ∃ Y, Y = Y0.alloc (.cells (rowC encA (fun _ => none) (j * sz) sz).toArray 83) := ⟨_, rfl⟩
      rw [← hY1]
      have hal : Below Y0.heap.size Y0 Y1 := hY1 ▸ (Below.refl Y0.heap.size Y0).alloc (Nat.le_refl _) _
      have hnw : Blk Y1 Y0.heap.size 83 (rowC encA (fun _ => none) (j * sz) sz).toArray := hY1 ▸ Blk.new Y0 _ _
      have hsz : Y1.heap.size = B + 2 + (j + 1) := by rw [hY1, World.size_alloc, Md.out.size, Nat.add_assoc (B + 2)]
      have e0 := Md.out.size
      rw [e0] at hnw
      have Kx := Lib.hid (Kd.out.trans (hal.mono (by omega)))
      have NW := Lib.hid hnw
      have RR := Lib.hid (Md.out.R.below hal (by omega))
      have CCs := Lib.hid (fun s (h : s < j) => (Md.out.C s h).below hal (by omega))
      have HSZ := Lib.hid hsz
      rw [e0]
      have G2 := Lib.hid (SG.out.below hal (by omega))
      clear hal hnw hsz hY1 Kd Md SG e0
      have SG := G2
      clear G2
      refine hK.out _ _ SG.out (fun _ => ?_)
      clear hK KK
      simp only [Act.put, tS1, tS2, tS3]
      refine tkA 7 (?_) ?_ SG.out ?_
      rotate_left
      · (intro w1 hS; go_simp; try with_reducible rfl)
      simp only [Act.put, tS1, tS2, tS3]
      refine tkO 8 (fun KK hK => ?_)
      have k1 := (RR.out.cell j).trans (hdrJ_get B sz st j hlt)
      have k2 := RR.out.frozen j
      go_simp
      have R2 := Lib.hid (RR.out.set_ j (.slice (some ⟨B + 2 + j, 0, none⟩) sz sz))
      rw [hdrJ_next] at R2
      have hst := (Below.refl 0 Y1).setCell (p := ⟨B, j, none⟩) (Nat.zero_le _) (.slice (some ⟨B + 2 + j, 0, none⟩) sz sz)
      have G2 := Lib.hid (SG.out.far (p := ⟨B, j, none⟩) (by show B + 1 ≠ B; omega) (.slice (some ⟨B + 2 + j, 0, none⟩) sz sz))
      have N2 := Lib.hid (NW.out.far (p := ⟨B, j, none⟩) (by show B + 2 + j ≠ B; omega) (.slice (some ⟨B + 2 + j, 0, none⟩) sz sz))
      have C2 := Lib.hid (fun s (h : s < j) => (CCs.out s h).far (p := ⟨B, j, none⟩) (by show B + 2 + s ≠ B; omega) (.slice (some ⟨B + 2 + j, 0, none⟩) sz sz))
      have K2 := Lib.hid (Kx.out.setCell (p := ⟨B, j, none⟩) (by show B ≤ B; omega) (.slice (some ⟨B + 2 + j, 0, none⟩) sz sz))
      have S2 : Hid ((Y1.setCell ⟨B, j, none⟩ (.slice (some ⟨B + 2 + j, 0, none⟩) sz sz)).heap.size = B + 2 + (j + 1)) := by show _ = _; rw [← HSZ.out]; exact Array.size_modify ..
      clear k1 k2 hst Kx RR CCs HSZ NW SG
      generalize Y1.setCell ⟨B, j, none⟩ (.slice (some ⟨B + 2 + j, 0, none⟩) sz sz) = Y2 at *
      refine hK.out _ _ G2.out (fun _ => ?_)
      clear hK KK
      try simp only [Act.put, tS1, tS2, tS3]
      refine wpAnyH_done (by kernel_rfl) ?_ _
      have MM : Hid (MK 78 79 83 encA B st sz (j + 1) Y2) := ⟨S2.out, G2.out, R2.out, fun s hs => by
        by_cases e : s = j
        · subst e; exact N2.out
        · exact C2.out s (by omega)⟩
      clear S2 G2 R2 N2 C2
      go_wp2
      go_roundw
      case rel => exact ⟨j + 1, Nat.succ_le_of_lt hlt, by go_num, MM, K2⟩
      case measure => simp [RowKit.intOf]; omega
    · obtain rfl : j = st := by omega
      have d8 : decide (((j : Nat) : Int) < (j : Int)) = false := decide_eq_false (by omega)
      have d9 : decide (j < j) = false := decide_eq_false (by omega)
      go_wp2
      go_ret2
      rw [← HB.out]
      exact ⟨rfl, ⟨by rw [itF_none]; exact Mr.out.G, by rw [← hdrJ_all]; exact Mr.out.R, Mr.out.C, h1, h2, h3, h4⟩, Kr.out⟩
set_option maxRecDepth 100000 in
set_option maxHeartbeats 4000000 in
theorem newS_yes (st sz : Nat) (h1 : 1 ≤ st) (h2 : st ≤ 4) (h3 : 1 ≤ sz) (h4 : sz ≤ 1024) (w : World) :
    Calls Try.prog 23 #[.int .i64 (st : Int), .int .i64 (sz : Int)] w fun e w' => e = .returned (.tuple #[.pointer (some ⟨w.heap.size + 1, 0, none⟩), .int .i64 0]) ∧ GdS w.heap.size st sz (fun _ => none) w' ∧ Below w.heap.size w w' := by
  have K := Lib.hid (Below.refl w.heap.size w)
  have d0 : decide ((st : Int) < 1) = false := decide_eq_false (by omega)
  have e0 : decide (st < 1) = false := decide_eq_false (by omega)
  have d1 : decide ((st : Int) > 4) = false := decide_eq_false (by omega)
  have e1 : decide (st > 4) = false := decide_eq_false (by omega)
  have d2 : decide ((sz : Int) < 1) = false := decide_eq_false (by omega)
  have e2 : decide (sz < 1) = false := decide_eq_false (by omega)
  have d3 : decide ((sz : Int) > 1024) = false := decide_eq_false (by omega)
  have e3 : decide (sz > 1024) = false := decide_eq_false (by omega)
  have e4 : decide (4 < st) = false := decide_eq_false (by omega)
  have e5 : decide (1024 < sz) = false := decide_eq_false (by omega)
  have hBu := Lib.hid builtGS
  go_enter Try.func23, Try.ntmps23
  go_wp2_with (first | (at_make; refine wpList_mk rfl _ 87 (.slice none 0 0) 1 _ _ rfl Try.underlying84 24 infRS (by decide) st (by omega) rfl rfl ?_))
  obtain ⟨V, hV⟩ : ∃ V, V = (w.alloc (.cells (madeCells #[Value.slice none 0 0] st) 87)).alloc (.cells #[.slice (some ⟨w.heap.size, 0, none⟩) st st, .int .i64 0] 86) := ⟨_, rfl⟩
  rw [← hV]
  have hmd := made_hdr w.heap.size sz st
  rw [Nat.mul_one] at hmd
  have m0 : MK 86 87 91 encS w.heap.size st sz 0 V := by
    rw [hV, hmd]
    refine ⟨by simp, ?_, ?_, fun s hs => absurd hs (Nat.not_lt_zero _)⟩
    · have := Blk.new (w.alloc (.cells (hdrJ w.heap.size sz st 0).toArray 87)) 86 (grC w.heap.size st 0)
      simp only [World.size_alloc] at this
      exact this
    · exact (Blk.new w 87 (hdrJ w.heap.size sz st 0).toArray).alloc _
  have M0 := Lib.hid m0
  have K0 : Hid (Below w.heap.size w V) := by
    show Below _ _ _
    rw [hV]
    exact ((Below.refl w.heap.size w).alloc (Nat.le_refl _) _).alloc (by simp) _
  obtain ⟨B, hB⟩ : ∃ B, B = w.heap.size := ⟨_, rfl⟩
  rw [← hB] at M0 K0 ⊢
  have HB := Lib.hid hB
  clear hmd m0 hV K hB hBu
  go_loopw [31] (fun i wr => ∃ j : Nat, j ≤ st ∧ i = .int .i64 (j : Int) ∧ Hid (MK 86 87 91 encS B st sz j wr) ∧ Hid (Below B w wr)) (fun i _ => st - (RowKit.intOf i).toNat)
  case atStart => exact ⟨0, by omega, rfl, M0, K0⟩
  case round =>
    obtain ⟨j, hj, rfl, Mr, Kr⟩ := hrel
    clear M0 K0
    by_cases hlt : j < st
    · have d8 : decide ((j : Int) < (st : Int)) = true := decide_eq_true (by omega)
      have d9 : decide (j < st) = true := decide_eq_true (by omega)
      have w6 : IntKind.i64.wrap ((j : Int) + 1) = ((j + 1 : Nat) : Int) := by rw [IntKind.wrap_i64]; omega
      have hb2 : 0 ≤ (j : Int) ∧ (j : Int) < (st : Int) := by omega
      go_upto_region 7 with fail
      refine wp_region_held (S := (fun w' : World => Blk w' (B + 1) 86 (grC B st 0))) (by kernel_rfl) ?_
      change wpAnyH _ _ _ _ _ _ _ _ wr.drew
      have Md : Hid (MK 86 87 91 encS B st sz j wr.drew) := ⟨Mr.out.size, Mr.out.G.drew, Mr.out.R.drew, fun s h => (Mr.out.C s h).drew⟩
      have Kd : Hid (Below B w wr.drew) := Kr.out.drew
      clear Mr Kr
      generalize wr.drew = Y0 at *
      have SG := Lib.hid Md.out.G
      refine tkA 0 (?_) ?_ SG.out ?_
      rotate_left
      · (intro w1 hS; go_simp; try with_reducible rfl)
      simp only [Act.put, tS1, tS2, tS3]
      refine tkA 1 (?_) ?_ SG.out ?_
      rotate_left
      · (intro w1 hS; go_simp; try with_reducible rfl)
      simp only [Act.put, tS1, tS2, tS3]
      refine tkA 2 (?_) ?_ SG.out ?_
      rotate_left
      · (intro w1 hS; go_simp; try with_reducible rfl)
      simp only [Act.put, tS1, tS2, tS3]
      refine tkA 3 (?_) ?_ SG.out ?_
      rotate_left
      · (intro w1 hS; have q := (hS.cell 0).trans (grC_get B st 0).1; clear hS; go_simp; try with_reducible rfl)
      simp only [Act.put, tS1, tS2, tS3]
      refine tkA 4 (?_) ?_ SG.out ?_
      rotate_left
      · (intro w1 hS; go_simp; try with_reducible rfl)
      simp only [Act.put, tS1, tS2, tS3]
      refine tkA 5 (?_) ?_ SG.out ?_
      rotate_left
      · (intro w1 hS; go_simp; try with_reducible rfl)
      simp only [Act.put, tS1, tS2, tS3]
      refine tkO 6 (fun KK hK => ?_)
      rw [if_pos (by rfl)]
      refine wp_mk _ 91 (.agg (encS none).toArray) 2 _ _ rfl Try.underlying87 24 infCS (by decide) sz (by omega) rfl rfl ?_
      rw [show (.agg (encS none).toArray : Value).cells = (encS none).toArray from rfl, made_row encS 2 encS_len (by decide) (j * sz) sz]
      obtain ⟨Y1, hY1⟩ : ∃ Y, Y = Y0.alloc (.cells (rowC encS (fun _ => none) (j * sz) sz).toArray 91) := ⟨_, rfl⟩
      rw [← hY1]
      have hal : Below Y0.heap.size Y0 Y1 := hY1 ▸ (Below.refl Y0.heap.size Y0).alloc (Nat.le_refl _) _
      have hnw : Blk Y1 Y0.heap.size 91 (rowC encS (fun _ => none) (j * sz) sz).toArray := hY1 ▸ Blk.new Y0 _ _
      have hsz : Y1.heap.size = B + 2 + (j + 1) := by rw [hY1, World.size_alloc, Md.out.size, Nat.add_assoc (B + 2)]
      have e0 := Md.out.size
      rw [e0] at hnw
      have Kx := Lib.hid (Kd.out.trans (hal.mono (by omega)))
      have NW := Lib.hid hnw
      have RR := Lib.hid (Md.out.R.below hal (by omega))
      have CCs := Lib.hid (fun s (h : s < j) => (Md.out.C s h).below hal (by omega))
      have HSZ := Lib.hid hsz
      rw [e0]
      have G2 := Lib.hid (SG.out.below hal (by omega))
      clear hal hnw hsz hY1 Kd Md SG e0
      have SG := G2
      clear G2
      refine hK.out _ _ SG.out (fun _ => ?_)
      clear hK KK
      simp only [Act.put, tS1, tS2, tS3]
      refine tkA 7 (?_) ?_ SG.out ?_
      rotate_left
      · (intro w1 hS; go_simp; try with_reducible rfl)
      simp only [Act.put, tS1, tS2, tS3]
      refine tkO 8 (fun KK hK => ?_)
      have k1 := (RR.out.cell j).trans (hdrJ_get B sz st j hlt)
      have k2 := RR.out.frozen j
      go_simp
      have R2 := Lib.hid (RR.out.set_ j (.slice (some ⟨B + 2 + j, 0, none⟩) sz sz))
      rw [hdrJ_next] at R2
      have hst := (Below.refl 0 Y1).setCell (p := ⟨B, j, none⟩) (Nat.zero_le _) (.slice (some ⟨B + 2 + j, 0, none⟩) sz sz)
      have G2 := Lib.hid (SG.out.far (p := ⟨B, j, none⟩) (by show B + 1 ≠ B; omega) (.slice (some ⟨B + 2 + j, 0, none⟩) sz sz))
      have N2 := Lib.hid (NW.out.far (p := ⟨B, j, none⟩) (by show B + 2 + j ≠ B; omega) (.slice (some ⟨B + 2 + j, 0, none⟩) sz sz))
      have C2 := Lib.hid (fun s (h : s < j) => (CCs.out s h).far (p := ⟨B, j, none⟩) (by show B + 2 + s ≠ B; omega) (.slice (some ⟨B + 2 + j, 0, none⟩) sz sz))
      have K2 := Lib.hid (Kx.out.setCell (p := ⟨B, j, none⟩) (by show B ≤ B; omega) (.slice (some ⟨B + 2 + j, 0, none⟩) sz sz))
      have S2 : Hid ((Y1.setCell ⟨B, j, none⟩ (.slice (some ⟨B + 2 + j, 0, none⟩) sz sz)).heap.size = B + 2 + (j + 1)) := by show _ = _; rw [← HSZ.out]; exact Array.size_modify ..
      clear k1 k2 hst Kx RR CCs HSZ NW SG
      generalize Y1.setCell ⟨B, j, none⟩ (.slice (some ⟨B + 2 + j, 0, none⟩) sz sz) = Y2 at *
      refine hK.out _ _ G2.out (fun _ => ?_)
      clear hK KK
      try simp only [Act.put, tS1, tS2, tS3]
      refine wpAnyH_done (by kernel_rfl) ?_ _
      have MM : Hid (MK 86 87 91 encS B st sz (j + 1) Y2) := ⟨S2.out, G2.out, R2.out, fun s hs => by
        by_cases e : s = j
        · subst e; exact N2.out
        · exact C2.out s (by omega)⟩
      clear S2 G2 R2 N2 C2
      go_wp2
      go_roundw
      case rel => exact ⟨j + 1, Nat.succ_le_of_lt hlt, by go_num, MM, K2⟩
      case measure => simp [RowKit.intOf]; omega
    · obtain rfl : j = st := by omega
      have d8 : decide (((j : Nat) : Int) < (j : Int)) = false := decide_eq_false (by omega)
      have d9 : decide (j < j) = false := decide_eq_false (by omega)
      go_wp2
      go_ret2
      rw [← HB.out]
      exact ⟨rfl, ⟨by rw [itF_none]; exact Mr.out.G, by rw [← hdrJ_all]; exact Mr.out.R, Mr.out.C, h1, h2, h3, h4⟩, Kr.out⟩
end Go.Proofs.Ytimnmdeiiahakaa
