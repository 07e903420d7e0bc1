/- Texts that the walks of this seat lean on, put together. -/
import Derived.LoopTactic
import Derived.Handy
import Derived.OwnWalk
import Derived.Deep.CutBlock
import Derived.Deep.DeepCutAuto
import Derived.Test.YthldpnifodbheaaTk
import Derived.Test.YthldpnifodbheaaTl
import Derived.Test.YthldpnifodbheaaM03
import Derived.Test.YthldpnifodbheaaM10
import Derived.Test.YthldpnifodbheaaM11
import Derived.Test.YthldpnifodbheaaM14
import Derived.Test.YthldpnifodbheaaM17
import Derived.Test.YthldpnifodbheaaM19
namespace Go.Proofs.Ythldpnifodbheaa
open Go.RowKit Go.Lib
set_option maxRecDepth 100000 in
theorem i27 : (Try.prog.info? 29).map (·.size) = some 48 := by kernel_rfl
set_option maxRecDepth 100000 in
theorem cf_io (c : Cf) (h : c.Fit) : (Try.prog.info? 26).map (·.size) = some (cellsA c.ov c.O).toList.length := i24.trans (congrArg some (by rw [Array.length_toList, cellsA_size, h.lO]))
set_option maxRecDepth 100000 in
theorem cf_ix (c : Cf) (h : c.Fit) : (Try.prog.info? 26).map (·.size) = some (cellsA c.xv c.X).toList.length := i24.trans (congrArg some (by rw [Array.length_toList, cellsA_size, h.lX]))
set_option maxRecDepth 100000 in
theorem cf_ic (c : Cf) (h : c.Fit) : (Try.prog.info? 29).map (·.size) = some c.cs.size := i27.trans (congrArg some (cf_size c h).symm)
set_option maxRecDepth 100000 in
set_option maxHeartbeats 4000000 in
theorem own_o (c : Cf) (hc : c.Fit) (hO : vldA c.ov c.O = false) (w : World) :
    Calls Try.prog 71 #[.agg c.cs] w fun e w' => e = .returned (.bool false) ∧ Below w.heap.size w w' := by
  have K := lh (Below.refl w.heap.size w)
  have CV1 := lh (fun W => valid_any c.ov c.O hc.lO hc.bO W)
  have CV2 := lh (fun W => valid_any c.xv c.X hc.lX hc.bX W)
  obtain ⟨b0, b1, b2, b3, b4, b5, b6, b7, b8, b9, b10, b11, b12, b13, b14, b15⟩ := cf_get c hc
  have Q0 := lh b0
  have Q1 := lh b1
  have Q2 := lh b2
  have Q3 := lh b3
  have Q4 := lh b4
  have Q5 := lh b5
  have Q6 := lh b6
  have Q7 := lh b7
  have Q8 := lh b8
  have Q9 := lh b9
  have Q10 := lh b10
  have Q11 := lh b11
  have Q12 := lh b12
  have Q13 := lh b13
  have Q14 := lh b14
  have Q15 := lh b15
  clear b0 b1 b2 b3 b4 b5 b6 b7 b8 b9 b10 b11 b12 b13 b14 b15
  have CP1 := lh (cf_own c)
  have CP2 := lh (cf_own6 c hc)
  have CI1 := lh (cf_io c hc)
  have CI2 := lh (cf_ix c hc)
  have IC := lh (cf_ic c hc)
  unfold adr at CV1 CV2
  generalize vldA c.ov c.O = vO at *
  generalize vldA c.xv c.X = vX at *
  generalize c.cs = cc at *
  generalize cellsA c.ov c.O = SO at *
  generalize cellsA c.xv c.X = SX at *
  generalize c.st = st at *
  generalize c.sz = sz at *
  generalize c.dg = dg at *
  generalize c.bl = bl at *
  generalize c.hs = hs at *
  generalize c.sl = sl at *
  generalize c.vs = vs at *
  generalize c.qu = qu at *
  generalize c.ev = ev at *
  generalize c.id = id at *
  generalize c.li = li at *
  generalize c.fa = fa at *
  generalize c.en = en at *
  generalize c.ov = ov at *
  generalize c.xv = xv at *
  generalize c.sd = sd at *
  clear hc
  subst hO
  go_enter Try.func71, Try.ntmps71
  have hal := (Below.refl w.heap.size w).alloc (Nat.le_refl _) (.cells cc 29)
  replace K := lh (K.out.trans (hal.mono K.out.size))
  have N := lh (Blk.new w 29 cc)
  clear hal
  have L1 : (loadVar 26 ⟨w.heap.size, 13, none⟩).run Try.prog (w.alloc (.cells cc 29)) = .ok (.agg SO) (w.alloc (.cells cc 29)) := by have h := run_part_load (P := Try.prog) 26 13 SO.toList _ N.out CP1.out Try.underlying26 rfl CI1.out; rwa [Array.toArray_toList] at h
  replace L1 := lh L1
  go_wp2_with (((with_reducible refine wpList_load_want (op := ⟨some 4, .load 26 (.tmp 3), _, _, _, _⟩) ?wg1 26 (.tmp 3) ?wo1 ⟨w.heap.size, 13, none⟩ ?wx1 (.agg SO) L1.out ?_); (case wg1 => rfl); (case wo1 => rfl); (case wx1 => rfl)))
  clear L1
  have hzV1 : Hid ((w.alloc (.cells cc 29)).heap.size = w.heap.size + 1) := by show _ = _; simp only [World.size_alloc]
  generalize (w.alloc (.cells cc 29)) = V1 at *
  refine (CV1.out V1).mono ?_
  rintro e V2 ⟨rfl, hy⟩
  replace K := lh (K.out.trans (hy.mono K.out.size))
  replace N := lh (N.out.below hy N.out.lt)
  clear hy
  go_wp2
  go_ret
  exact ⟨rfl, K.out⟩
set_option maxRecDepth 100000 in
set_option maxHeartbeats 4000000 in
theorem own_x (c : Cf) (hc : c.Fit) (hO : vldA c.ov c.O = true) (hX : vldA c.xv c.X = false) (w : World) :
    Calls Try.prog 71 #[.agg c.cs] w fun e w' => e = .returned (.bool false) ∧ Below w.heap.size w w' := by
  have K := lh (Below.refl w.heap.size w)
  have CV1 := lh (fun W => valid_any c.ov c.O hc.lO hc.bO W)
  have CV2 := lh (fun W => valid_any c.xv c.X hc.lX hc.bX W)
  obtain ⟨b0, b1, b2, b3, b4, b5, b6, b7, b8, b9, b10, b11, b12, b13, b14, b15⟩ := cf_get c hc
  have Q0 := lh b0
  have Q1 := lh b1
  have Q2 := lh b2
  have Q3 := lh b3
  have Q4 := lh b4
  have Q5 := lh b5
  have Q6 := lh b6
  have Q7 := lh b7
  have Q8 := lh b8
  have Q9 := lh b9
  have Q10 := lh b10
  have Q11 := lh b11
  have Q12 := lh b12
  have Q13 := lh b13
  have Q14 := lh b14
  have Q15 := lh b15
  clear b0 b1 b2 b3 b4 b5 b6 b7 b8 b9 b10 b11 b12 b13 b14 b15
  have CP1 := lh (cf_own c)
  have CP2 := lh (cf_own6 c hc)
  have CI1 := lh (cf_io c hc)
  have CI2 := lh (cf_ix c hc)
  have IC := lh (cf_ic c hc)
  unfold adr at CV1 CV2
  generalize vldA c.ov c.O = vO at *
  generalize vldA c.xv c.X = vX at *
  generalize c.cs = cc at *
  generalize cellsA c.ov c.O = SO at *
  generalize cellsA c.xv c.X = SX at *
  generalize c.st = st at *
  generalize c.sz = sz at *
  generalize c.dg = dg at *
  generalize c.bl = bl at *
  generalize c.hs = hs at *
  generalize c.sl = sl at *
  generalize c.vs = vs at *
  generalize c.qu = qu at *
  generalize c.ev = ev at *
  generalize c.id = id at *
  generalize c.li = li at *
  generalize c.fa = fa at *
  generalize c.en = en at *
  generalize c.ov = ov at *
  generalize c.xv = xv at *
  generalize c.sd = sd at *
  clear hc
  subst hO
  subst hX
  go_enter Try.func71, Try.ntmps71
  have hal := (Below.refl w.heap.size w).alloc (Nat.le_refl _) (.cells cc 29)
  replace K := lh (K.out.trans (hal.mono K.out.size))
  have N := lh (Blk.new w 29 cc)
  clear hal
  have L2 : (loadVar 26 ⟨w.heap.size, 13, none⟩).run Try.prog (w.alloc (.cells cc 29)) = .ok (.agg SO) (w.alloc (.cells cc 29)) := by have h := run_part_load (P := Try.prog) 26 13 SO.toList _ N.out CP1.out Try.underlying26 rfl CI1.out; rwa [Array.toArray_toList] at h
  replace L2 := lh L2
  go_wp2_with (((with_reducible refine wpList_load_want (op := ⟨some 4, .load 26 (.tmp 3), _, _, _, _⟩) ?wg2 26 (.tmp 3) ?wo2 ⟨w.heap.size, 13, none⟩ ?wx2 (.agg SO) L2.out ?_); (case wg2 => rfl); (case wo2 => rfl); (case wx2 => rfl)))
  clear L2
  have hzV1 : Hid ((w.alloc (.cells cc 29)).heap.size = w.heap.size + 1) := by show _ = _; simp only [World.size_alloc]
  generalize (w.alloc (.cells cc 29)) = V1 at *
  refine (CV1.out V1).mono ?_
  rintro e V2 ⟨rfl, hy⟩
  replace K := lh (K.out.trans (hy.mono K.out.size))
  replace N := lh (N.out.below hy N.out.lt)
  clear hy
  have L3 : (loadVar 26 ⟨w.heap.size, 30, none⟩).run Try.prog V2 = .ok (.agg SX) V2 := by have h := run_part_load (P := Try.prog) 26 30 SX.toList _ N.out CP2.out Try.underlying26 rfl CI2.out; rwa [Array.toArray_toList] at h
  replace L3 := lh L3
  go_wp2_with (((with_reducible refine wpList_load_want (op := ⟨some 9, .load 26 (.tmp 8), _, _, _, _⟩) ?wg3 26 (.tmp 8) ?wo3 ⟨w.heap.size, 30, none⟩ ?wx3 (.agg SX) L3.out ?_); (case wg3 => rfl); (case wo3 => rfl); (case wx3 => rfl)))
  clear L3
  refine (CV2.out V2).mono ?_
  rintro e V3 ⟨rfl, hy⟩
  replace K := lh (K.out.trans (hy.mono K.out.size))
  replace N := lh (N.out.below hy N.out.lt)
  clear hy
  go_wp2
  go_ret
  exact ⟨rfl, K.out⟩
set_option maxRecDepth 100000 in
set_option maxHeartbeats 4000000 in
theorem own_n (c : Cf) (hc : c.Fit) (hO : vldA c.ov c.O = true) (hX : vldA c.xv c.X = true) (hE : c.en = false) (w : World) :
    Calls Try.prog 71 #[.agg c.cs] w fun e w' => e = .returned (.bool true) ∧ Below w.heap.size w w' := by
  have K := lh (Below.refl w.heap.size w)
  have CV1 := lh (fun W => valid_any c.ov c.O hc.lO hc.bO W)
  have CV2 := lh (fun W => valid_any c.xv c.X hc.lX hc.bX W)
  obtain ⟨b0, b1, b2, b3, b4, b5, b6, b7, b8, b9, b10, b11, b12, b13, b14, b15⟩ := cf_get c hc
  have Q0 := lh b0
  have Q1 := lh b1
  have Q2 := lh b2
  have Q3 := lh b3
  have Q4 := lh b4
  have Q5 := lh b5
  have Q6 := lh b6
  have Q7 := lh b7
  have Q8 := lh b8
  have Q9 := lh b9
  have Q10 := lh b10
  have Q11 := lh b11
  have Q12 := lh b12
  have Q13 := lh b13
  have Q14 := lh b14
  have Q15 := lh b15
  clear b0 b1 b2 b3 b4 b5 b6 b7 b8 b9 b10 b11 b12 b13 b14 b15
  have CP1 := lh (cf_own c)
  have CP2 := lh (cf_own6 c hc)
  have CI1 := lh (cf_io c hc)
  have CI2 := lh (cf_ix c hc)
  have IC := lh (cf_ic c hc)
  unfold adr at CV1 CV2
  generalize vldA c.ov c.O = vO at *
  generalize vldA c.xv c.X = vX at *
  generalize c.cs = cc at *
  generalize cellsA c.ov c.O = SO at *
  generalize cellsA c.xv c.X = SX at *
  generalize c.st = st at *
  generalize c.sz = sz at *
  generalize c.dg = dg at *
  generalize c.bl = bl at *
  generalize c.hs = hs at *
  generalize c.sl = sl at *
  generalize c.vs = vs at *
  generalize c.qu = qu at *
  generalize c.ev = ev at *
  generalize c.id = id at *
  generalize c.li = li at *
  generalize c.fa = fa at *
  generalize c.en = en at *
  generalize c.ov = ov at *
  generalize c.xv = xv at *
  generalize c.sd = sd at *
  clear hc
  subst hO
  subst hX
  subst hE
  go_enter Try.func71, Try.ntmps71
  have hal := (Below.refl w.heap.size w).alloc (Nat.le_refl _) (.cells cc 29)
  replace K := lh (K.out.trans (hal.mono K.out.size))
  have N := lh (Blk.new w 29 cc)
  clear hal
  have L4 : (loadVar 26 ⟨w.heap.size, 13, none⟩).run Try.prog (w.alloc (.cells cc 29)) = .ok (.agg SO) (w.alloc (.cells cc 29)) := by have h := run_part_load (P := Try.prog) 26 13 SO.toList _ N.out CP1.out Try.underlying26 rfl CI1.out; rwa [Array.toArray_toList] at h
  replace L4 := lh L4
  go_wp2_with (((with_reducible refine wpList_load_want (op := ⟨some 4, .load 26 (.tmp 3), _, _, _, _⟩) ?wg4 26 (.tmp 3) ?wo4 ⟨w.heap.size, 13, none⟩ ?wx4 (.agg SO) L4.out ?_); (case wg4 => rfl); (case wo4 => rfl); (case wx4 => rfl)))
  clear L4
  have hzV1 : Hid ((w.alloc (.cells cc 29)).heap.size = w.heap.size + 1) := by show _ = _; simp only [World.size_alloc]
  generalize (w.alloc (.cells cc 29)) = V1 at *
  refine (CV1.out V1).mono ?_
  rintro e V2 ⟨rfl, hy⟩
  replace K := lh (K.out.trans (hy.mono K.out.size))
  replace N := lh (N.out.below hy N.out.lt)
  clear hy
  have L5 : (loadVar 26 ⟨w.heap.size, 30, none⟩).run Try.prog V2 = .ok (.agg SX) V2 := by have h := run_part_load (P := Try.prog) 26 30 SX.toList _ N.out CP2.out Try.underlying26 rfl CI2.out; rwa [Array.toArray_toList] at h
  replace L5 := lh L5
  go_wp2_with (((with_reducible refine wpList_load_want (op := ⟨some 9, .load 26 (.tmp 8), _, _, _, _⟩) ?wg5 26 (.tmp 8) ?wo5 ⟨w.heap.size, 30, none⟩ ?wx5 (.agg SX) L5.out ?_); (case wg5 => rfl); (case wo5 => rfl); (case wx5 => rfl)))
  clear L5
  refine (CV2.out V2).mono ?_
  rintro e V3 ⟨rfl, hy⟩
  replace K := lh (K.out.trans (hy.mono K.out.size))
  replace N := lh (N.out.below hy N.out.lt)
  clear hy
  have L6 := (N.out.cell 12).trans Q12.out
  go_wp2
  go_ret
  exact ⟨rfl, K.out⟩
set_option maxRecDepth 100000 in
set_option maxHeartbeats 4000000 in
theorem own_v (c : Cf) (hc : c.Fit) (hO : vldA c.ov c.O = true) (hX : vldA c.xv c.X = true) (hE : c.en = true) (hV : c.ov = true) (w : World) :
    Calls Try.prog 71 #[.agg c.cs] w fun e w' => e = .returned (.bool false) ∧ Below w.heap.size w w' := by
  have K := lh (Below.refl w.heap.size w)
  have CV1 := lh (fun W => valid_any c.ov c.O hc.lO hc.bO W)
  have CV2 := lh (fun W => valid_any c.xv c.X hc.lX hc.bX W)
  obtain ⟨b0, b1, b2, b3, b4, b5, b6, b7, b8, b9, b10, b11, b12, b13, b14, b15⟩ := cf_get c hc
  have Q0 := lh b0
  have Q1 := lh b1
  have Q2 := lh b2
  have Q3 := lh b3
  have Q4 := lh b4
  have Q5 := lh b5
  have Q6 := lh b6
  have Q7 := lh b7
  have Q8 := lh b8
  have Q9 := lh b9
  have Q10 := lh b10
  have Q11 := lh b11
  have Q12 := lh b12
  have Q13 := lh b13
  have Q14 := lh b14
  have Q15 := lh b15
  clear b0 b1 b2 b3 b4 b5 b6 b7 b8 b9 b10 b11 b12 b13 b14 b15
  have CP1 := lh (cf_own c)
  have CP2 := lh (cf_own6 c hc)
  have CI1 := lh (cf_io c hc)
  have CI2 := lh (cf_ix c hc)
  have IC := lh (cf_ic c hc)
  unfold adr at CV1 CV2
  generalize vldA c.ov c.O = vO at *
  generalize vldA c.xv c.X = vX at *
  generalize c.cs = cc at *
  generalize cellsA c.ov c.O = SO at *
  generalize cellsA c.xv c.X = SX at *
  generalize c.st = st at *
  generalize c.sz = sz at *
  generalize c.dg = dg at *
  generalize c.bl = bl at *
  generalize c.hs = hs at *
  generalize c.sl = sl at *
  generalize c.vs = vs at *
  generalize c.qu = qu at *
  generalize c.ev = ev at *
  generalize c.id = id at *
  generalize c.li = li at *
  generalize c.fa = fa at *
  generalize c.en = en at *
  generalize c.ov = ov at *
  generalize c.xv = xv at *
  generalize c.sd = sd at *
  clear hc
  subst hO
  subst hX
  subst hE
  subst hV
  go_enter Try.func71, Try.ntmps71
  have hal := (Below.refl w.heap.size w).alloc (Nat.le_refl _) (.cells cc 29)
  replace K := lh (K.out.trans (hal.mono K.out.size))
  have N := lh (Blk.new w 29 cc)
  clear hal
  have L7 : (loadVar 26 ⟨w.heap.size, 13, none⟩).run Try.prog (w.alloc (.cells cc 29)) = .ok (.agg SO) (w.alloc (.cells cc 29)) := by have h := run_part_load (P := Try.prog) 26 13 SO.toList _ N.out CP1.out Try.underlying26 rfl CI1.out; rwa [Array.toArray_toList] at h
  replace L7 := lh L7
  go_wp2_with (((with_reducible refine wpList_load_want (op := ⟨some 4, .load 26 (.tmp 3), _, _, _, _⟩) ?wg7 26 (.tmp 3) ?wo7 ⟨w.heap.size, 13, none⟩ ?wx7 (.agg SO) L7.out ?_); (case wg7 => rfl); (case wo7 => rfl); (case wx7 => rfl)))
  clear L7
  have hzV1 : Hid ((w.alloc (.cells cc 29)).heap.size = w.heap.size + 1) := by show _ = _; simp only [World.size_alloc]
  generalize (w.alloc (.cells cc 29)) = V1 at *
  refine (CV1.out V1).mono ?_
  rintro e V2 ⟨rfl, hy⟩
  replace K := lh (K.out.trans (hy.mono K.out.size))
  replace N := lh (N.out.below hy N.out.lt)
  clear hy
  have L8 : (loadVar 26 ⟨w.heap.size, 30, none⟩).run Try.prog V2 = .ok (.agg SX) V2 := by have h := run_part_load (P := Try.prog) 26 30 SX.toList _ N.out CP2.out Try.underlying26 rfl CI2.out; rwa [Array.toArray_toList] at h
  replace L8 := lh L8
  go_wp2_with (((with_reducible refine wpList_load_want (op := ⟨some 9, .load 26 (.tmp 8), _, _, _, _⟩) ?wg8 26 (.tmp 8) ?wo8 ⟨w.heap.size, 30, none⟩ ?wx8 (.agg SX) L8.out ?_); (case wg8 => rfl); (case wo8 => rfl); (case wx8 => rfl)))
  clear L8
  refine (CV2.out V2).mono ?_
  rintro e V3 ⟨rfl, hy⟩
  replace K := lh (K.out.trans (hy.mono K.out.size))
  replace N := lh (N.out.below hy N.out.lt)
  clear hy
  have L9 := (N.out.cell 12).trans Q12.out
  have L10 := (N.out.cell 13).trans Q13.out
  go_wp2
  go_ret
  exact ⟨rfl, K.out⟩
set_option maxRecDepth 100000 in
set_option maxHeartbeats 4000000 in
theorem own_y (c : Cf) (hc : c.Fit) (hO : vldA c.ov c.O = true) (hX : vldA c.xv c.X = true) (hE : c.en = true) (hV : c.ov = false) (w : World) :
    Calls Try.prog 71 #[.agg c.cs] w fun e w' => e = .returned (.bool c.xv) ∧ Below w.heap.size w w' := by
  have K := lh (Below.refl w.heap.size w)
  have CV1 := lh (fun W => valid_any c.ov c.O hc.lO hc.bO W)
  have CV2 := lh (fun W => valid_any c.xv c.X hc.lX hc.bX W)
  obtain ⟨b0, b1, b2, b3, b4, b5, b6, b7, b8, b9, b10, b11, b12, b13, b14, b15⟩ := cf_get c hc
  have Q0 := lh b0
  have Q1 := lh b1
  have Q2 := lh b2
  have Q3 := lh b3
  have Q4 := lh b4
  have Q5 := lh b5
  have Q6 := lh b6
  have Q7 := lh b7
  have Q8 := lh b8
  have Q9 := lh b9
  have Q10 := lh b10
  have Q11 := lh b11
  have Q12 := lh b12
  have Q13 := lh b13
  have Q14 := lh b14
  have Q15 := lh b15
  clear b0 b1 b2 b3 b4 b5 b6 b7 b8 b9 b10 b11 b12 b13 b14 b15
  have CP1 := lh (cf_own c)
  have CP2 := lh (cf_own6 c hc)
  have CI1 := lh (cf_io c hc)
  have CI2 := lh (cf_ix c hc)
  have IC := lh (cf_ic c hc)
  unfold adr at CV1 CV2
  generalize vldA c.ov c.O = vO at *
  generalize vldA c.xv c.X = vX at *
  generalize c.cs = cc at *
  generalize cellsA c.ov c.O = SO at *
  generalize cellsA c.xv c.X = SX at *
  generalize c.st = st at *
  generalize c.sz = sz at *
  generalize c.dg = dg at *
  generalize c.bl = bl at *
  generalize c.hs = hs at *
  generalize c.sl = sl at *
  generalize c.vs = vs at *
  generalize c.qu = qu at *
  generalize c.ev = ev at *
  generalize c.id = id at *
  generalize c.li = li at *
  generalize c.fa = fa at *
  generalize c.en = en at *
  generalize c.ov = ov at *
  generalize c.xv = xv at *
  generalize c.sd = sd at *
  clear hc
  subst hO
  subst hX
  subst hE
  subst hV
  go_enter Try.func71, Try.ntmps71
  have hal := (Below.refl w.heap.size w).alloc (Nat.le_refl _) (.cells cc 29)
  replace K := lh (K.out.trans (hal.mono K.out.size))
  have N := lh (Blk.new w 29 cc)
  clear hal
  have L11 : (loadVar 26 ⟨w.heap.size, 13, none⟩).run Try.prog (w.alloc (.cells cc 29)) = .ok (.agg SO) (w.alloc (.cells cc 29)) := by have h := run_part_load (P := Try.prog) 26 13 SO.toList _ N.out CP1.out Try.underlying26 rfl CI1.out; rwa [Array.toArray_toList] at h
  replace L11 := lh L11
  go_wp2_with (((with_reducible refine wpList_load_want (op := ⟨some 4, .load 26 (.tmp 3), _, _, _, _⟩) ?wg11 26 (.tmp 3) ?wo11 ⟨w.heap.size, 13, none⟩ ?wx11 (.agg SO) L11.out ?_); (case wg11 => rfl); (case wo11 => rfl); (case wx11 => rfl)))
  clear L11
  have hzV1 : Hid ((w.alloc (.cells cc 29)).heap.size = w.heap.size + 1) := by show _ = _; simp only [World.size_alloc]
  generalize (w.alloc (.cells cc 29)) = V1 at *
  refine (CV1.out V1).mono ?_
  rintro e V2 ⟨rfl, hy⟩
  replace K := lh (K.out.trans (hy.mono K.out.size))
  replace N := lh (N.out.below hy N.out.lt)
  clear hy
  have L12 : (loadVar 26 ⟨w.heap.size, 30, none⟩).run Try.prog V2 = .ok (.agg SX) V2 := by have h := run_part_load (P := Try.prog) 26 30 SX.toList _ N.out CP2.out Try.underlying26 rfl CI2.out; rwa [Array.toArray_toList] at h
  replace L12 := lh L12
  go_wp2_with (((with_reducible refine wpList_load_want (op := ⟨some 9, .load 26 (.tmp 8), _, _, _, _⟩) ?wg12 26 (.tmp 8) ?wo12 ⟨w.heap.size, 30, none⟩ ?wx12 (.agg SX) L12.out ?_); (case wg12 => rfl); (case wo12 => rfl); (case wx12 => rfl)))
  clear L12
  refine (CV2.out V2).mono ?_
  rintro e V3 ⟨rfl, hy⟩
  replace K := lh (K.out.trans (hy.mono K.out.size))
  replace N := lh (N.out.below hy N.out.lt)
  clear hy
  have L13 := (N.out.cell 12).trans Q12.out
  have L14 := (N.out.cell 13).trans Q13.out
  have L15 := (N.out.cell 30).trans Q14.out
  go_wp2
  go_ret
  exact ⟨rfl, K.out⟩
set_option maxRecDepth 100000 in
theorem own_any (c : Cf) (hc : c.Fit) (w : World) : Calls Try.prog 71 #[.agg c.cs] w fun e w' => e = .returned (.bool (okO c)) ∧ Below w.heap.size w w' := by
  cases hO : vldA c.ov c.O with
  | false => rw [show okO c = false from by unfold okO; rw [hO]; simp]; exact own_o c hc hO w
  | true =>
    cases hX : vldA c.xv c.X with
    | false => rw [show okO c = false from by unfold okO; rw [hX]; simp]; exact own_x c hc hO hX w
    | true =>
      cases hE : c.en with
      | false => rw [show okO c = true from by unfold okO; rw [hO, hX, hE]; simp]; exact own_n c hc hO hX hE w
      | true =>
        cases hV : c.ov with
        | true => rw [show okO c = false from by unfold okO; rw [hE, hV]; simp]; exact own_v c hc hO hX hE hV w
        | false => rw [show okO c = c.xv from by unfold okO; rw [hO, hX, hE, hV]; simp]; exact own_y c hc hO hX hE hV w
end Go.Proofs.Ythldpnifodbheaa
namespace Go.Proofs.Ythldpnifodbheaa
open Go.RowKit Go.Lib
set_option maxRecDepth 100000 in
theorem info3 : (Try.prog.info? 3).map (fun i => (i.zero, i.size, i.bytes)) = some (some (.int .i64 0), 1, 8) := by kernel_rfl
end Go.Proofs.Ythldpnifodbheaa
