/- Texts that the walks of this seat lean on, put together. -/
import Derived.Great.BuildSlice
import Derived.Deep.CutBlock
import Derived.Deep.DeepCutAuto
import Derived.LoopTactic
import Derived.Handy
import Derived.Test.YthldpnifodbheaaTk
import Derived.Test.YthldpnifodbheaaTl
import Derived.Test.YthldpnifodbheaaM14
import Derived.Test.YthldpnifodbheaaM22
import Derived.Test.YthldpnifodbheaaM25
namespace Go.Proofs.Ythldpnifodbheaa
open Go.RowKit Go.Lib
def bndA (c : Cf) : Array Value := #[.int .i64 c.st, .int .i64 1, .int .i64 4, .bool false, .int .i64 c.sz, .int .i64 2, .int .i64 1024, .bool true, .int .i64 c.dg, .int .i64 1, .int .i64 16, .bool false, .int .i64 c.bl, .int .i64 8, .int .i64 65536, .bool true, .int .i64 c.hs, .int .i64 1, .int .i64 4, .bool false, .int .i64 c.sl, .int .i64 1, .int .i64 64, .bool false, .int .i64 c.vs, .int .i64 2, .int .i64 16, .bool false, .int .i64 c.qu, .int .i64 1, .int .i64 256, .bool false, .int .i64 c.ev, .int .i64 1, .int .i64 64, .bool false, .int .i64 c.id, .int .i64 1, .int .i64 1000, .bool false, .int .i64 c.li, .int .i64 1, .int .i64 1000, .bool false, .int .i64 c.fa, .int .i64 1, .int .i64 10, .bool false]
def bAt (c : Cf) (k : Nat) : Int × Int × Int × Bool := (bnds c).getD k (0, 0, 0, false)
set_option maxRecDepth 100000 in
theorem lt12 (k : Nat) (h : k < 12) : k = 0 ∨ k = 1 ∨ k = 2 ∨ k = 3 ∨ k = 4 ∨ k = 5 ∨ k = 6 ∨ k = 7 ∨ k = 8 ∨ k = 9 ∨ k = 10 ∨ k = 11 := by omega
set_option maxRecDepth 100000 in
theorem bnd_part (c : Cf) (k : Nat) (h : k < 12) : ((bndA c).toList.drop (k * 4)).take (bcs (bAt c k)).toList.length = (bcs (bAt c k)).toList := by
  rcases lt12 k h with rfl | rfl | rfl | rfl | rfl | rfl | rfl | rfl | rfl | rfl | rfl | rfl <;> rfl
set_option maxRecDepth 100000 in
theorem bnd_good (c : Cf) (k : Nat) (h : k < 12) : (bAt c k).2.2.2 = true → 1 ≤ (bAt c k).2.1 ∧ (bAt c k).2.2.1 ≤ 65536 := by
  rcases lt12 k h with rfl | rfl | rfl | rfl | rfl | rfl | rfl | rfl | rfl | rfl | rfl | rfl <;> intro h2 <;> first | exact Bool.noConfusion (show false = true from h2) | exact ⟨show (1 : Int) ≤ 2 by decide, show (1024 : Int) ≤ 65536 by decide⟩ | exact ⟨show (1 : Int) ≤ 8 by decide, show (65536 : Int) ≤ 65536 by decide⟩
set_option maxRecDepth 100000 in
theorem all_take (c : Cf) (k : Nat) (h : k < 12) : ((bnds c).take (k + 1)).all hold = (((bnds c).take k).all hold && hold (bAt c k)) := by
  rcases lt12 k h with rfl | rfl | rfl | rfl | rfl | rfl | rfl | rfl | rfl | rfl | rfl | rfl <;> simp only [bnds, bAt, List.take_succ_cons, List.take_zero, List.all_cons, List.all_nil, Bool.and_true, Bool.true_and, Bool.and_assoc, List.getD_cons_zero, List.getD_cons_succ]
set_option maxRecDepth 100000 in
theorem all_no (c : Cf) (k : Nat) (h : k < 12) (hb : hold (bAt c k) = false) : (bnds c).all hold = false := by
  rw [Bool.eq_false_iff]
  intro e
  rw [List.all_eq_true] at e
  have hl : k < (bnds c).length := h
  have := e (bAt c k) (by unfold bAt; rw [List.getD_eq_getElem?_getD, List.getElem?_eq_getElem hl]; exact List.getElem_mem hl)
  rw [hb] at this
  cases this
set_option maxRecDepth 100000 in
theorem i64t : (Try.prog.info? 147).map (·.size) = some 4 := by kernel_rfl
set_option maxRecDepth 100000 in
set_option maxHeartbeats 4000000 in
theorem bounds_any (c : Cf) (hc : c.Fit) (w : World) : Calls Try.prog 69 #[.agg c.cs] w fun e w' => e = .returned (.slice (some ⟨w.heap.size + 1, 0, none⟩) 12 12) ∧ Blk w' (w.heap.size + 1) 147 (bndA c) ∧ Below w.heap.size w w' := by
  have K := lh (Below.refl w.heap.size w)
  obtain ⟨b0, b1, b2, b3, b4, b5, b6, b7, b8, b9, b10, b11, b12, b13, b14, b15⟩ := cf_get c hc
  have Q0 := lh b0
  have Q1 := lh b1
  have Q2 := lh b2
  have Q3 := lh b3
  have Q4 := lh b4
  have Q5 := lh b5
  have Q6 := lh b6
  have Q7 := lh b7
  have Q8 := lh b8
  have Q9 := lh b9
  have Q10 := lh b10
  have Q11 := lh b11
  have Q12 := lh b12
  have Q13 := lh b13
  have Q14 := lh b14
  have Q15 := lh b15
  clear b0 b1 b2 b3 b4 b5 b6 b7 b8 b9 b10 b11 b12 b13 b14 b15
  have CP1 := lh (cf_own c)
  have CP2 := lh (cf_own6 c hc)
  have CI1 := lh (cf_io c hc)
  have CI2 := lh (cf_ix c hc)
  have IC := lh (cf_ic c hc)
  unfold bndA
  generalize c.cs = cc at *
  generalize cellsA c.ov c.O = SO at *
  generalize cellsA c.xv c.X = SX at *
  generalize c.st = st at *
  generalize c.sz = sz at *
  generalize c.dg = dg at *
  generalize c.bl = bl at *
  generalize c.hs = hs at *
  generalize c.sl = sl at *
  generalize c.vs = vs at *
  generalize c.qu = qu at *
  generalize c.ev = ev at *
  generalize c.id = id at *
  generalize c.li = li at *
  generalize c.fa = fa at *
  generalize c.en = en at *
  generalize c.ov = ov at *
  generalize c.xv = xv at *
  generalize c.sd = sd at *
  clear hc
  go_enter Try.func69, Try.ntmps69
  have hal := (Below.refl w.heap.size w).alloc (Nat.le_refl _) (.cells cc 29)
  replace K := lh (K.out.trans (hal.mono K.out.size))
  have N := lh (Blk.new w 29 cc)
  clear hal
  have L1 := (N.out.cell 0).trans Q0.out
  have L2 := (N.out.cell 1).trans Q1.out
  have L3 := (N.out.cell 2).trans Q2.out
  have L4 := (N.out.cell 3).trans Q3.out
  have L5 := (N.out.cell 4).trans Q4.out
  have L6 := (N.out.cell 5).trans Q5.out
  have L7 := (N.out.cell 6).trans Q6.out
  have L8 := (N.out.cell 7).trans Q7.out
  have L9 := (N.out.cell 8).trans Q8.out
  have L10 := (N.out.cell 9).trans Q9.out
  have L11 := (N.out.cell 10).trans Q10.out
  have L12 := (N.out.cell 11).trans Q11.out
  go_wp2
  go_ret
  exact ⟨rfl, by rw [← World.size_alloc w (.cells cc 29)]; exact Blk.new _ _ _, K.out.alloc K.out.size _⟩
end Go.Proofs.Ythldpnifodbheaa
namespace Go.Proofs.Ythldpnifodbheaa
open Go.RowKit Go.Lib
set_option maxRecDepth 100000 in
set_option maxHeartbeats 4000000 in
theorem check_any (c : Cf) (hc : c.Fit) (w : World) : Calls Try.prog 45 #[.agg c.cs] w fun e w' => e = .returned (.int .i64 (if okC c then 0 else 1)) ∧ Below w.heap.size w w' := by
  have K := lh (Below.refl w.heap.size w)
  have CB := lh (fun W => bounds_any c hc W)
  have CO := lh (fun W => own_any c hc W)
  have CH := lh (fun k (h : k < 12) W => holds_any (bAt c k) (bnd_good c k h) W)
  have CP := lh (fun k (h : k < 12) => bnd_part c k h)
  have HA := lh (fun k (h : k < 12) => all_take c k h)
  have HN := lh (fun k (h : k < 12) => all_no c k h)
  have HK := lh (okC_bnds c)
  have H0 := lh (show ((bnds c).take 0).all hold = true from rfl)
  have HZ := lh (show ((bnds c).take 12).all hold = (bnds c).all hold from rfl)
  obtain ⟨b0, b1, b2, b3, b4, b5, b6, b7, b8, b9, b10, b11, b12, b13, b14, b15⟩ := cf_get c hc
  have Q0 := lh b0
  have Q1 := lh b1
  have Q2 := lh b2
  have Q3 := lh b3
  have Q4 := lh b4
  have Q5 := lh b5
  have Q6 := lh b6
  have Q7 := lh b7
  have Q8 := lh b8
  have Q9 := lh b9
  have Q10 := lh b10
  have Q11 := lh b11
  have Q12 := lh b12
  have Q13 := lh b13
  have Q14 := lh b14
  have Q15 := lh b15
  clear b0 b1 b2 b3 b4 b5 b6 b7 b8 b9 b10 b11 b12 b13 b14 b15
  have CP1 := lh (cf_own c)
  have CP2 := lh (cf_own6 c hc)
  have CI1 := lh (cf_io c hc)
  have CI2 := lh (cf_ix c hc)
  have IC := lh (cf_ic c hc)
  generalize okC c = ok at *
  generalize okO c = ov at *
  generalize (bnds c).all hold = AH at *
  generalize hAL : (fun k => ((bnds c).take k).all hold) = AL at *
  have hA2 : ∀ k, ((bnds c).take k).all hold = AL k := fun k => by rw [← hAL]
  simp only [hA2] at H0 HZ HA
  generalize bndA c = BA at *
  generalize hBB : (fun k => bAt c k) = BB at *
  have hB2 : ∀ k, bAt c k = BB k := fun k => by rw [← hBB]
  simp only [hB2] at CH CP HA HN
  clear hAL hBB hA2 hB2
  generalize c.cs = cc at *
  generalize cellsA c.ov c.O = SO at *
  generalize cellsA c.xv c.X = SX at *
  clear hc
  obtain ⟨R, hR⟩ : ∃ R : Int, R = if ok then 0 else 1 := ⟨_, rfl⟩
  rw [← hR]
  have HR := lh hR
  clear hR
  go_enter Try.func45, Try.ntmps45
  have hal := (Below.refl w.heap.size w).alloc (Nat.le_refl _) (.cells cc 29)
  replace K := lh (K.out.trans (hal.mono K.out.size))
  have N := lh (Blk.new w 29 cc)
  clear hal
  have L13 : (loadVar 29 ⟨w.heap.size, 0, none⟩).run Try.prog (w.alloc (.cells cc 29)) = .ok (.agg cc) (w.alloc (.cells cc 29)) := run_blk_load (P := Try.prog) 29 (w.heap.size) _ N.out Try.underlying29 rfl IC.out
  replace L13 := lh L13
  go_wp2_with (((with_reducible refine wpList_load_want (op := ⟨some 5, .load 29 (.tmp 1), _, _, _, _⟩) ?wg13 29 (.tmp 1) ?wo13 ⟨w.heap.size, 0, none⟩ ?wx13 (.agg cc) L13.out ?_); (case wg13 => rfl); (case wo13 => rfl); (case wx13 => rfl)))
  clear L13
  have hzV1 : Hid ((w.alloc (.cells cc 29)).heap.size = w.heap.size + 1) := by show _ = _; simp only [World.size_alloc]
  generalize (w.alloc (.cells cc 29)) = V1 at *
  refine (CB.out V1).mono ?_
  rintro e V2 ⟨rfl, hB, hy⟩
  replace K := lh (K.out.trans (hy.mono K.out.size))
  replace N := lh (N.out.below hy N.out.lt)
  clear hy
  obtain ⟨g, hg⟩ : ∃ g, g = V1.heap.size + 1 := ⟨_, rfl⟩
  rw [← hg] at hB ⊢
  have B := lh hB
  clear hB hg
  go_wp2
  go_loopw [8] (fun i wr => ∃ k : Nat, k ≤ 12 ∧ i = .int .i64 (k : Int) ∧ Hid (AL k = true) ∧ Hid (Blk wr w.heap.size 29 cc) ∧ Hid (Blk wr g 147 BA) ∧ Hid (Below w.heap.size w wr)) (fun i _ => 12 - (RowKit.intOf i).toNat)
  case atStart => exact ⟨0, by omega, rfl, H0, N, B, K⟩
  case round =>
    obtain ⟨k, hk, rfl, hAL, hN, hBk, hK⟩ := hrel
    clear H0 N B K
    by_cases hlt : k < 12
    · have d8 : decide ((k : Int) < 12) = true := decide_eq_true (by omega)
      have CHk := lh (CH.out k hlt)
      have CPk := lh (CP.out k hlt)
      have HAk := lh (HA.out k hlt)
      have HNk := lh (HN.out k hlt)
      have hs : Hid ((bcs (BB k)).size = (#[.int .i64 0, .int .i64 0, .int .i64 0, .bool false] : Array Value).size) := rfl
      have hi : Hid ((Try.prog.info? 147).map (·.size) = some (bcs (BB k)).size) := i64t
      have hl : Hid ((Try.prog.info? 147).map (·.size) = some (bcs (BB k)).toList.length) := i64t
      have ho : Hid ((bcs (BB k)).all (·.oneCell') = true) := by show _ = true; simp [bcs, Value.oneCell']
      generalize bcs (BB k) = X at *
      generalize hold (BB k) = hb at *
      clear CH CP HA HN
      have L9 : (loadVar 147 ⟨g, k * 4, none⟩).run Try.prog wr = .ok (.agg X) wr := by have h := run_part_load (P := Try.prog) 147 (k * 4) X.toList _ hBk.out CPk.out Try.underlying147 rfl hl.out; rwa [Array.toArray_toList] at h
      replace L9 := lh L9
      have q1 := hBk.out.lt
      have q2 := hN.out.lt
      go_wp2_with (first | ((with_reducible refine wpList_load_want (op := ⟨some 11, .load 147 (.tmp 10), _, _, _, _⟩) ?wg9 147 (.tmp 10) ?wo9 ⟨g, k * 4, none⟩ ?wx9 (.agg X) L9.out ?_); (case wg9 => rfl); (case wo9 => rfl); (case wx9 => rfl)) | ((with_reducible refine wpList_blk_store (op := ⟨none, .store 147 (.tmp 4) (.tmp 11), _, _, _, _⟩) ?sg14 147 (.tmp 4) (.tmp 11) ?so14 (wr.heap.size) X ?sx14 ?sy14 (Blk.new wr 147 #[.int .i64 0, .int .i64 0, .int .i64 0, .bool false]) hs.out hi.out ho.out ?_); (case sg14 => rfl); (case so14 => rfl); (case sx14 => rfl); (case sy14 => rfl)))
      have qhNM : w.heap.size < wr.heap.size := hN.out.lt
      have qhBkM : g < wr.heap.size := hBk.out.lt
      intro V4 hA hF hB
      have hy := ((Below.refl wr.heap.size wr).alloc (Nat.le_refl _) (.cells #[.int .i64 0, .int .i64 0, .int .i64 0, .bool false] 147)).trans (hB _ (Nat.le_refl _))
      replace hN := lh (hN.out.below hy hN.out.lt)
      replace hBk := lh (hBk.out.below hy hBk.out.lt)
      replace hK := lh (hK.out.trans (hy.mono hK.out.size))
      have M := lh hA
      clear hA hF hB hy
      clear L9
      have L15 : (loadVar 147 ⟨wr.heap.size, 0, none⟩).run Try.prog V4 = .ok (.agg X) V4 := run_blk_load (P := Try.prog) 147 (wr.heap.size) _ M.out Try.underlying147 rfl hi.out
      replace L15 := lh L15
      go_wp2_with (((with_reducible refine wpList_load_want (op := ⟨some 12, .load 147 (.tmp 4), _, _, _, _⟩) ?wg15 147 (.tmp 4) ?wo15 ⟨wr.heap.size, 0, none⟩ ?wx15 (.agg X) L15.out ?_); (case wg15 => rfl); (case wo15 => rfl); (case wx15 => rfl)))
      clear L15
      refine (CHk.out V4).mono ?_
      rintro e V5 ⟨rfl, hy⟩
      replace hN := lh (hN.out.below hy hN.out.lt)
      replace hBk := lh (hBk.out.below hy hBk.out.lt)
      replace hK := lh (hK.out.trans (hy.mono hK.out.size))
      replace M := lh (M.out.below hy M.out.lt)
      clear hy
      cases hb with
      | false =>
        go_wp2
        go_ret
        have e : ok = false := by rw [HK.out, HNk.out trivial]; rfl
        exact ⟨by rw [HR.out, e]; rfl, hK.out⟩
      | true =>
        have hA2 : Hid (AL (k + 1) = true) := by show _ = true; rw [HAk.out, hAL.out]; rfl
        go_wp2
        go_roundw
        case rel => exact ⟨k + 1, Nat.succ_le_of_lt hlt, by go_num, hA2, hN, hBk, hK⟩
        case measure => simp [RowKit.intOf]; omega
    · obtain rfl : k = 12 := by omega
      have d16 : decide (((12 : Nat) : Int) < 12) = false := by decide
      have e : ok = ov := by rw [HK.out, ← HZ.out, hAL.out]; rfl
      have HE := lh e
      clear CH CP HA HN e
      go_upto_region 7 with fail
      have L16 : (loadVar 29 ⟨w.heap.size, 0, none⟩).run Try.prog wr = .ok (.agg cc) wr := run_blk_load (P := Try.prog) 29 (w.heap.size) _ hN.out Try.underlying29 rfl IC.out
      replace L16 := lh L16
      go_wp2_with (((with_reducible refine wpList_load_want (op := ⟨some 16, .load 29 (.tmp 1), _, _, _, _⟩) ?wg16 29 (.tmp 1) ?wo16 ⟨w.heap.size, 0, none⟩ ?wx16 (.agg cc) L16.out ?_); (case wg16 => rfl); (case wo16 => rfl); (case wx16 => rfl)))
      clear L16
      refine (CO.out wr).mono ?_
      rintro e V23 ⟨rfl, hy⟩
      replace hN := lh (hN.out.below hy hN.out.lt)
      replace hBk := lh (hBk.out.below hy hBk.out.lt)
      replace hK := lh (hK.out.trans (hy.mono hK.out.size))
      clear hy
      cases ov with
      | false =>
        go_wp2
        go_ret
        exact ⟨by rw [HR.out, HE.out]; rfl, hK.out⟩
      | true =>
        go_wp2
        go_ret
        exact ⟨by rw [HR.out, HE.out]; rfl, hK.out⟩
end Go.Proofs.Ythldpnifodbheaa
namespace Go.Proofs.Ythldpnifodbheaa
open Go.RowKit Go.Lib
set_option maxRecDepth 100000 in
theorem built_fam (c : Cf) : Try.prog.built 110 [(1, .int .u32 (c.sd : Int)), (2, .int .i64 c.st), (3, .int .i64 c.sz), (4, .int .i64 c.dg), (5, .int .i64 c.bl), (6, .int .i64 c.hs)] = some (fam (List.replicate 1024 0) c) := by
  kernel_rfl
set_option maxRecDepth 100000 in
theorem wpList_built2 {P : Program} {ops : Array Oper} {rest : List Oper} {op : Oper} {a : Act} {w : World} {Q : Exit → Act → World → Prop} (hw : Region.wanted op (yielded ops a.tmps) = true) (t : TypeId) (parts : Array (Nat × Operand)) (ho : op.op = .build t parts)
    (vals : Array (Nat × Value)) (hv : (parts.map fun (i, x) => (i, a.eval x)) = vals) (cells : Array Value) (hf : P.built t vals.toList = some cells) (h : wpList P ops Q rest (a.put op.dst (.agg cells)) w) : wpList P ops Q (op :: rest) a w :=
  BigFrame.wpList_want hw fun K hK => by
    unfold Oper.wp
    simp only [exec_build t parts ho vals hv cells hf]
    exact hK _ _ h
set_option maxRecDepth 100000 in
theorem wp_part_store {P : Program} {w : World} {K : Act → World → Prop} {Q : Exit → Act → World → Prop} {g : Nat} {t : TypeId} {cs : Array Value} {op : Oper} {a : Act} (ty : TypeId) (x y : Operand) (ho : op.op = .store ty x y)
    (off : Nat) (vs : Array Value) (hx : a.eval x = .pointer (some ⟨g, off, none⟩)) (hy : a.eval y = .agg vs) (hc : Blk w g t cs) (hs : off + vs.size ≤ cs.size)
    (hi : (P.info? ty).map (·.size) = some vs.size) (h1 : vs.all (·.oneCell') = true)
    (h : ∀ w', Blk w' g t (setL cs off vs.toList) → (∀ k, k ≠ g → w'.heap[k]? = w.heap[k]?) → (∀ B, B ≤ g → Below B w w') → K (a.put op.dst undef) w') : op.wp P a w K Q :=
  wp_store_mid ty x y ho g off vs hx hy (hc.thereAt hs) hi h1
    (h _ (Blk.setCells vs.toList off w cs hc) (fun k hk => setCells_far k hk _ _ _) (fun _ hB => setCells_below hB _ _ _ (Below.refl _ _)))
def midT (k : Nat) : List Nat := tabs4.take (256 * k) ++ List.replicate (1024 - 256 * k) 0
set_option maxRecDepth 100000 in
theorem midT_len (k : Nat) (h : k ≤ 4) : (midT k).length = 1024 := by
  unfold midT
  rw [List.length_append, List.length_take, List.length_replicate, tabs4_len]
  omega
set_option maxRecDepth 100000 in
theorem midT_4 : midT 4 = tabs4 := by
  unfold midT
  rw [List.take_of_length_le (by rw [tabs4_len]; omega)]
  exact List.append_nil _
set_option maxRecDepth 100000 in
theorem setL_nus (k : IntKind) : ∀ (vs : List Nat) (A : List Nat) (C : Array Value) (o : Nat), o + vs.length ≤ A.length → setL ((nus k A).toArray ++ C) o (nus k vs) = (nus k (A.take o ++ vs ++ A.drop (o + vs.length))).toArray ++ C := by
  intro vs A C o h
  apply Array.ext_getElem?
  intro j
  rw [setL_get]
  have hl1 : (nus k A).length = A.length := nus_length _ _
  have hl2 : (nus k vs).length = vs.length := nus_length _ _
  have hl3 : (nus k (A.take o ++ vs ++ A.drop (o + vs.length))).length = A.length := by rw [nus_length]; simp; omega
  rw [hl2]
  by_cases h1 : o ≤ j ∧ j < o + vs.length
  · rw [if_pos ⟨h1.1, h1.2, by simp only [Array.size_append, List.size_toArray, hl1]; omega⟩, Array.getElem?_append_left (by simp only [List.size_toArray, hl3]; omega)]
    rw [List.getElem?_toArray, nus_append, nus_append, List.append_assoc, List.getElem?_append_right (by rw [nus_length, List.length_take]; omega), List.getElem?_append_left (by rw [nus_length, nus_length, List.length_take]; omega), nus_length, List.length_take, show min o A.length = o by omega]
  · rw [if_neg (fun e => h1 ⟨e.1, e.2.1⟩)]
    by_cases h2 : j < A.length
    · rw [Array.getElem?_append_left (by simp only [List.size_toArray, hl1]; omega), Array.getElem?_append_left (by simp only [List.size_toArray, hl3]; omega), List.getElem?_toArray, List.getElem?_toArray]
      unfold nus
      rw [List.getElem?_map, List.getElem?_map]
      congr 1
      by_cases h3 : j < o
      · rw [List.append_assoc, List.getElem?_append_left (by rw [List.length_take]; omega), List.getElem?_take_of_lt h3]
      · rw [List.getElem?_append_right (by rw [List.length_append, List.length_take]; omega), List.getElem?_drop, List.length_append, List.length_take]
        congr 1
        omega
    · rw [Array.getElem?_append_right (by simp only [List.size_toArray, hl1]; omega), Array.getElem?_append_right (by simp only [List.size_toArray, hl3]; omega)]
      simp only [List.size_toArray, hl1, hl3]
set_option maxRecDepth 100000 in
theorem midT_step (k : Nat) (h : k < 4) : (midT k).take (256 * k) ++ knT k ++ (midT k).drop (256 * k + 256) = midT (k + 1) := by
  have ht : (tabs4.take (256 * k)).length = 256 * k := by rw [List.length_take, tabs4_len]; omega
  have hp := knT_part k h
  unfold midT
  generalize tabs4 = T at *
  generalize knT k = Z at *
  rw [List.take_append_of_le_length (Nat.le_of_eq ht.symm), List.take_of_length_le (Nat.le_of_eq ht), List.drop_append, ht, List.drop_of_length_le (by omega), List.nil_append, List.drop_replicate, show 256 * (k + 1) = 256 * k + 256 by omega, List.take_add, hp]
  congr 2
  omega
set_option maxRecDepth 100000 in
theorem midT_next (k : Nat) (h : k < 4) (c : Cf) : setL (fam (midT k) c) (256 * k) (tcs (knT k)).toList = fam (midT (k + 1)) c := by
  have hl := knT_len k
  have hm := midT_len k (by omega)
  have hs := midT_step k h
  unfold fam tcs
  generalize knT k = Z at *
  generalize midT (k + 1) = M' at *
  generalize midT k = M at *
  rw [setL_nus _ _ _ _ _ (by rw [hl, hm]; omega), hl, hs]
set_option maxRecDepth 100000 in
theorem kn_cell (k : Nat) (h : k < 4) : (tcs knownC)[k]? = some (.int .u32 ((knownC.getD k 0 : Nat) : Int)) := tcs_at _ _ h
set_option maxRecDepth 100000 in
theorem kn_info (k : Nat) : (Try.prog.info? 107).map (·.size) = some (tcs (knT k)).size := i70.trans (congrArg some (by rw [tcs_size, knT_len]))
set_option maxRecDepth 100000 in
set_option maxHeartbeats 4000000 in
theorem new_yes (c : Cf) (hc : c.Fit) (hok : okC c = true) (w : World) :
    Calls Try.prog 25 #[.agg c.cs] w fun e w' => (∃ g, e = .returned (.tuple #[.pointer (some ⟨g, 0, none⟩), .int .i64 0]) ∧ w.heap.size ≤ g ∧ Blk w' g 110 (famC c)) ∧ Below w.heap.size w w' := by
  have K := lh (Below.refl w.heap.size w)
  have CC := lh (fun W => check_any c hc W)
  rw [hok] at CC
  replace CC := lh (show ∀ W, Calls Try.prog 45 #[.agg c.cs] W fun e w' => e = .returned (.int .i64 0) ∧ Below W.heap.size W w' from CC.out)
  have BF := lh (built_fam c)
  have HM0 : Hid (fam (midT 0) c = fam (List.replicate 1024 0) c) := rfl
  have HM4 : Hid (fam (midT 4) c = famC c) := by show _ = _; rw [midT_4]; rfl
  have HMN := lh (fun k (h : k < 4) => midT_next k h c)
  have HMS := lh (fun k (h : k ≤ 4) => fam_size (midT k) c (midT_len k h))
  obtain ⟨F, hF⟩ : ∃ F : Nat → Array Value, F = fun k => fam (midT k) c := ⟨_, rfl⟩
  have hF2 : ∀ k, fam (midT k) c = F k := fun k => by rw [hF]
  simp only [hF2] at HM0 HM4 HMN HMS
  rw [← HM0.out] at BF
  rw [← HM4.out]
  have CK := lh (fun W => known_any W)
  have CM := lh (fun k (h : k < 4) W => make_any (knownC.getD k 0) (knownC_hi k h).2 W)
  have HC := lh (fun k (h : k < 4) => kn_cell k h)
  have HI := lh (fun k => kn_info k)
  have HO := lh (fun k => tcs_one (knT k))
  have HZ := lh (fun k => show (tcs (knT k)).size = 256 from by rw [tcs_size, knT_len])
  replace CM := lh (show ∀ k (h : k < 4) W, Calls Try.prog 48 #[.int .u32 ((knownC.getD k 0 : Nat) : Int)] W fun e w' => e = .returned (.agg (tcs (knT k))) ∧ Below W.heap.size W w' from CM.out)
  obtain ⟨b0, b1, b2, b3, b4, b5, b6, b7, b8, b9, b10, b11, b12, b13, b14, b15⟩ := cf_get c hc
  have Q0 := lh b0
  have Q1 := lh b1
  have Q2 := lh b2
  have Q3 := lh b3
  have Q4 := lh b4
  have Q5 := lh b5
  have Q6 := lh b6
  have Q7 := lh b7
  have Q8 := lh b8
  have Q9 := lh b9
  have Q10 := lh b10
  have Q11 := lh b11
  have Q12 := lh b12
  have Q13 := lh b13
  have Q14 := lh b14
  have Q15 := lh b15
  clear b0 b1 b2 b3 b4 b5 b6 b7 b8 b9 b10 b11 b12 b13 b14 b15
  have CP1 := lh (cf_own c)
  have CP2 := lh (cf_own6 c hc)
  have CI1 := lh (cf_io c hc)
  have CI2 := lh (cf_ix c hc)
  have IC := lh (cf_ic c hc)
  generalize c.cs = cc at *
  generalize cellsA c.ov c.O = SO at *
  generalize cellsA c.xv c.X = SX at *
  generalize c.st = st at *
  generalize c.sz = sz at *
  generalize c.dg = dg at *
  generalize c.bl = bl at *
  generalize c.hs = hs at *
  generalize c.sl = sl at *
  generalize c.vs = vs at *
  generalize c.qu = qu at *
  generalize c.ev = ev at *
  generalize c.id = id at *
  generalize c.li = li at *
  generalize c.fa = fa at *
  generalize c.en = en at *
  generalize c.ov = ov at *
  generalize c.xv = xv at *
  generalize c.sd = sd at *
  clear hc hok hF hF2 HM0 HM4
  go_enter Try.func25, Try.ntmps25
  have hal := (Below.refl w.heap.size w).alloc (Nat.le_refl _) (.cells cc 29)
  replace K := lh (K.out.trans (hal.mono K.out.size))
  have N := lh (Blk.new w 29 cc)
  clear hal
  have L2 : (loadVar 29 ⟨w.heap.size, 0, none⟩).run Try.prog (w.alloc (.cells cc 29)) = .ok (.agg cc) (w.alloc (.cells cc 29)) := run_blk_load (P := Try.prog) 29 (w.heap.size) _ N.out Try.underlying29 rfl IC.out
  replace L2 := lh L2
  go_wp2_with (((with_reducible refine wpList_load_want (op := ⟨some 8, .load 29 (.tmp 1), _, _, _, _⟩) ?wg2 29 (.tmp 1) ?wo2 ⟨w.heap.size, 0, none⟩ ?wx2 (.agg cc) L2.out ?_); (case wg2 => rfl); (case wo2 => rfl); (case wx2 => rfl)))
  clear L2
  have hzV1 : Hid ((w.alloc (.cells cc 29)).heap.size = w.heap.size + 1) := by show _ = _; simp only [World.size_alloc]
  generalize (w.alloc (.cells cc 29)) = V1 at *
  refine (CC.out V1).mono ?_
  rintro e V2 ⟨rfl, hy⟩
  replace K := lh (K.out.trans (hy.mono K.out.size))
  replace N := lh (N.out.below hy N.out.lt)
  clear hy
  have L3 := (N.out.cell 47).trans Q15.out
  have L4 := (N.out.cell 0).trans Q0.out
  have L5 := (N.out.cell 1).trans Q1.out
  have L6 := (N.out.cell 2).trans Q2.out
  have L7 := (N.out.cell 3).trans Q3.out
  have L8 := (N.out.cell 4).trans Q4.out
  have qK := K.out.size
  have hal := (Below.refl V2.heap.size V2).alloc (Nat.le_refl _) (.cells (F 0) 110)
  replace K := lh (K.out.trans (hal.mono K.out.size))
  replace N := lh (N.out.below hal N.out.lt)
  have FB := lh (Blk.new V2 110 (F 0))
  clear hal
  obtain ⟨gF, hgF⟩ : ∃ gF, gF = V2.heap.size := ⟨_, rfl⟩
  go_wp2_with (((with_reducible refine wpList_built2 (op := ⟨some 25, .build 110 #[(1, Operand.tmp 14), (2, Operand.tmp 16), (3, Operand.tmp 18), (4, Operand.tmp 20), (5, Operand.tmp 22), (6, Operand.tmp 24)], _, _, _, _⟩) ?wg25 110 #[(1, Operand.tmp 14), (2, Operand.tmp 16), (3, Operand.tmp 18), (4, Operand.tmp 20), (5, Operand.tmp 22), (6, Operand.tmp 24)] ?wo25 #[(1, .int .u32 (sd : Int)), (2, .int .i64 st), (3, .int .i64 sz), (4, .int .i64 dg), (5, .int .i64 bl), (6, .int .i64 hs)] ?wv25 (F 0) ?wf25 ?_); (case wg25 => rfl); (case wo25 => rfl); (case wv25 => kernel_rfl); (case wf25 => exact BF.out)))
  clear L3 L4 L5 L6 L7 L8
  have hzV3 : Hid ((V2.alloc (.cells (F 0) 110)).heap.size = V2.heap.size + 1) := by show _ = _; simp only [World.size_alloc]
  generalize (V2.alloc (.cells (F 0) 110)) = V3 at *
  rw [← hgF] at FB qK ⊢
  clear hgF
  go_wp2_with fail
  have qFK : gF < V3.heap.size := FB.out.lt
  refine (CK.out V3).mono ?_
  rintro e V4 ⟨rfl, hB, hy⟩
  replace K := lh (K.out.trans (hy.mono K.out.size))
  replace N := lh (N.out.below hy N.out.lt)
  replace FB := lh (FB.out.below hy FB.out.lt)
  clear hy
  obtain ⟨gK, hgK⟩ : ∃ gK, gK = V3.heap.size := ⟨_, rfl⟩
  rw [← hgK] at hB qFK ⊢
  have KN := lh hB
  clear hB hgK N
  go_wp2
  go_loopw [29] (fun i wr => ∃ (k : Nat), k ≤ 4 ∧ i = .int .i64 (k : Int) ∧ Hid (Blk wr gF 110 (F k)) ∧ Hid (Blk wr gK 27 (tcs knownC)) ∧ Hid (Below w.heap.size w wr)) (fun i _ => 4 - (RowKit.intOf i).toNat)
  case atStart => exact ⟨0, by omega, rfl, FB, KN, K⟩
  case round =>
    obtain ⟨k, hk, rfl, Fr, KNr, Kr⟩ := hrel
    clear FB KN K BF
    by_cases hlt : k < 4
    · have d8 : decide ((k : Int) < 4) = true := decide_eq_true (by omega)
      have d9 : decide (k < 4) = true := decide_eq_true (by omega)
      have CMk := lh (CM.out k hlt)
      have HNk := lh (HMN.out k hlt)
      have HSk := lh (HMS.out k (by omega))
      have HIk := lh (HI.out k)
      have HOk := lh (HO.out k)
      have HZk := lh (HZ.out k)
      have hc1 := (KNr.out.cell k).trans (HC.out k hlt)
      have i1 : (0 : Int) ≤ (k : Int) := by omega
      have i2 : (k : Int) < 4 := by omega
      clear CM HMN HMS HI HO HZ HC
      generalize knownC.getD k 0 = pn at *
      generalize hT : tcs (knT k) = T at *
      clear hT
      go_upto_region 8 with fail
      have hlow : gF ≤ wr.heap.size := Nat.le_of_lt Fr.out.lt
      refine wp_region_held (S := (fun w' : World => Below (gF) wr w')) (by kernel_rfl) ?_
      change wpAnyH _ _ _ _ _ _ _ _ wr.drew
      have hy : Below wr.heap.size wr wr.drew := (Below.refl _ _).drew
      have hE0 : Below (gF) wr wr.drew := (Below.refl _ _).drew
      replace Fr := lh (Fr.out.below hy Fr.out.lt)
      replace KNr := lh (KNr.out.below hy KNr.out.lt)
      clear hy
      generalize wr.drew = Y8x0 at hE0 Fr KNr ⊢
      have E0 := lh hE0
      clear hE0
      refine tkA 0 (?_) ?_ E0.out ?_
      rotate_left
      · (intro w1 hS; go_simp; try with_reducible rfl)
      simp only [Act.put, tS1, tS2, tS3]
      refine tkA 1 (?_) ?_ E0.out ?_
      rotate_left
      · (intro w1 hS; go_simp; try with_reducible rfl)
      simp only [Act.put, tS1, tS2, tS3]
      refine tkA 2 (?_) ?_ E0.out ?_
      rotate_left
      · (intro w1 hS; go_simp; try with_reducible rfl)
      simp only [Act.put, tS1, tS2, tS3]
      refine tkA 4 (?_) ?_ E0.out ?_
      rotate_left
      · (intro w1 hS; go_simp; try with_reducible rfl)
      simp only [Act.put, tS1, tS2, tS3]
      refine tkA 5 (?_) ?_ E0.out ?_
      rotate_left
      · (intro w1 hS; go_simp; try with_reducible rfl)
      simp only [Act.put, tS1, tS2, tS3]
      refine tkO 3 (fun KK hK => ?_)
      go_simp
      refine (CMk.out Y8x0).mono ?_
      rintro e Y8x1 ⟨rfl, hy⟩
      replace Fr := lh (Fr.out.below hy Fr.out.lt)
      replace KNr := lh (KNr.out.below hy KNr.out.lt)
      have E1 := lh (E0.out.trans (hy.mono (Nat.le_trans hlow E0.out.size)))
      have C1 := lh E1.out
      clear hy E0
      refine hK.out _ _ C1.out (fun _ => ?_)
      clear hK KK
      clear C1
      try simp only [Act.put, tS1, tS2, tS3]
      refine tkA 6 (?_) ?_ E1.out ?_
      rotate_left
      · (intro w1 hS; go_simp; try with_reducible rfl)
      simp only [Act.put, tS1, tS2, tS3]
      refine tkO 7 (fun KK hK => ?_)
      rw [if_pos (by rfl)]
      refine wp_part_store 107 (.tmp 40) (.tmp 37) rfl (256 * k) T ?sx rfl Fr.out (by rw [HZk.out, HSk.out]; omega) HIk.out HOk.out ?_
      case sx => first | rfl | (show _ = Value.pointer (some ⟨gF, 256 * k, none⟩); rw [Nat.mul_comm]; rfl)
      intro Y8x2 hA hF hBl
      rw [HNk.out] at hA
      have E2 := lh (E1.out.trans (hBl _ (Nat.le_refl _)))
      replace KNr := lh (show Blk _ _ _ _ from (hF _ (by omega)).trans KNr.out)
      replace Fr := lh hA
      clear hA hF hBl E1
      refine hK.out _ _ E2.out (fun _ => ?_)
      clear hK KK
      try simp only [Act.put]
      refine wpAnyH_done (by kernel_rfl) ?_ _
      replace Kr := lh (Kr.out.trans (E2.out.mono (by omega)))
      clear E2
      go_wp2
      go_roundw
      case rel => exact ⟨k + 1, Nat.succ_le_of_lt hlt, by go_num, Fr, KNr, Kr⟩
      case measure => simp [RowKit.intOf]; omega
    · obtain rfl : k = 4 := by omega
      have d8 : decide (((4 : Nat) : Int) < 4) = false := by decide
      go_wp2
      go_ret2
      exact ⟨⟨gF, rfl, qK, Fr.out⟩, Kr.out⟩
end Go.Proofs.Ythldpnifodbheaa
