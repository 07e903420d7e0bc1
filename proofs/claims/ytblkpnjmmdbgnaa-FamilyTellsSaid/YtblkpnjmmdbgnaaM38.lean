/- Texts that the walks of this seat lean on, put together. -/
import Derived.StillTailTactics
import Derived.Deep.CutBlock
import Derived.Deep.DeepCutAuto
import Derived.LoopTactic
import Derived.Handy
import Derived.Test.YtblkpnjmmdbgnaaTk
import Derived.Test.YtblkpnjmmdbgnaaM18
import Derived.Test.YtblkpnjmmdbgnaaM20
import Derived.Test.YtblkpnjmmdbgnaaM31
import Derived.Test.YtblkpnjmmdbgnaaM36
namespace Go.Proofs.Ytblkpnjmmdbgnaa
open Go.RowKit Go.Lib
set_option maxRecDepth 100000 in
set_option maxHeartbeats 4000000 in
theorem rchk_0 (c : Cf) (hc : c.Fit) (h0 : wi c.st 1 4 = false) (w : World) :
    Calls Try.prog 8 #[.agg c.cs] w fun e w' => e = .returned (.bool false) ∧ Below w.heap.size w w' := by
  have K := Lib.hid (Below.refl w.heap.size w)
  have C0 := Lib.hid (fun W => within_any c.st 1 4 W)
  rw [h0] at C0
  obtain ⟨b0, b1, b2, b3, b4, b5, b6, b7, b8, b9, b10, b11, b12, b13, b14, b15⟩ := cf_get c hc
  have Q0 := Lib.hid b0
  have Q1 := Lib.hid b1
  have Q2 := Lib.hid b2
  have Q3 := Lib.hid b3
  have Q4 := Lib.hid b4
  have Q5 := Lib.hid b5
  have Q6 := Lib.hid b6
  have Q7 := Lib.hid b7
  have Q8 := Lib.hid b8
  have Q9 := Lib.hid b9
  have Q10 := Lib.hid b10
  have Q11 := Lib.hid b11
  have Q12 := Lib.hid b12
  have Q13 := Lib.hid b13
  have Q14 := Lib.hid b14
  have Q15 := Lib.hid b15
  clear b0 b1 b2 b3 b4 b5 b6 b7 b8 b9 b10 b11 b12 b13 b14 b15
  have CP1 := Lib.hid (cf_own c)
  have CP2 := Lib.hid (cf_own6 c hc)
  have CI1 := Lib.hid (cf_io c hc)
  have CI2 := Lib.hid (cf_ix c hc)
  have IC := Lib.hid (cf_ic c hc)
  clear h0
  generalize c.cs = cc at *
  generalize cellsA c.ov c.O = SO at *
  generalize cellsA c.xv c.X = SX at *
  generalize c.st = st at *
  generalize c.sz = sz at *
  generalize c.dg = dg at *
  generalize c.bl = bl at *
  generalize c.hs = hs at *
  generalize c.sl = sl at *
  generalize c.vs = vs at *
  generalize c.qu = qu at *
  generalize c.ev = ev at *
  generalize c.id = id at *
  generalize c.li = li at *
  generalize c.fa = fa at *
  generalize c.en = en at *
  generalize c.ov = ov at *
  generalize c.xv = xv at *
  generalize c.sd = sd at *
  clear hc
  go_enter Try.func8, Try.ntmps8
  have hal := (Below.refl w.heap.size w).alloc (Nat.le_refl _) (.cells cc 27)
  replace K := Lib.hid (K.out.trans (hal.mono K.out.size))
  have N := Lib.hid (Blk.new w 27 cc)
  clear hal
  go_upto_region 1 with fail
  dsimp only [List.append]
  have L1 := (N.out.cell 0).trans Q0.out
  go_wp2_with fail
  clear L1
  have hzV1 : Hid ((w.alloc (.cells cc 27)).heap.size = w.heap.size + 1) := by show _ = _; simp only [World.size_alloc]
  generalize (w.alloc (.cells cc 27)) = V1 at *
  refine (same_below (C0.out V1)).mono ?_
  rintro e V2 ⟨rfl, hy⟩
  replace K := Lib.hid (K.out.trans (hy.mono K.out.size))
  replace N := Lib.hid (N.out.below hy N.out.lt)
  clear hy
  go_wp2
  go_ret
  exact ⟨rfl, K.out⟩
set_option maxRecDepth 100000 in
set_option maxHeartbeats 4000000 in
theorem rchk_1 (c : Cf) (hc : c.Fit) (h0 : wi c.st 1 4 = true) (h1 : pw c.sz 2 1024 = false) (w : World) :
    Calls Try.prog 8 #[.agg c.cs] w fun e w' => e = .returned (.bool false) ∧ Below w.heap.size w w' := by
  have K := Lib.hid (Below.refl w.heap.size w)
  have C0 := Lib.hid (fun W => within_any c.st 1 4 W)
  rw [h0] at C0
  have C1 := Lib.hid (fun W => power_any c.sz 2 1024 (by decide) (by decide) W)
  rw [h1] at C1
  obtain ⟨b0, b1, b2, b3, b4, b5, b6, b7, b8, b9, b10, b11, b12, b13, b14, b15⟩ := cf_get c hc
  have Q0 := Lib.hid b0
  have Q1 := Lib.hid b1
  have Q2 := Lib.hid b2
  have Q3 := Lib.hid b3
  have Q4 := Lib.hid b4
  have Q5 := Lib.hid b5
  have Q6 := Lib.hid b6
  have Q7 := Lib.hid b7
  have Q8 := Lib.hid b8
  have Q9 := Lib.hid b9
  have Q10 := Lib.hid b10
  have Q11 := Lib.hid b11
  have Q12 := Lib.hid b12
  have Q13 := Lib.hid b13
  have Q14 := Lib.hid b14
  have Q15 := Lib.hid b15
  clear b0 b1 b2 b3 b4 b5 b6 b7 b8 b9 b10 b11 b12 b13 b14 b15
  have CP1 := Lib.hid (cf_own c)
  have CP2 := Lib.hid (cf_own6 c hc)
  have CI1 := Lib.hid (cf_io c hc)
  have CI2 := Lib.hid (cf_ix c hc)
  have IC := Lib.hid (cf_ic c hc)
  clear h0 h1
  generalize c.cs = cc at *
  generalize cellsA c.ov c.O = SO at *
  generalize cellsA c.xv c.X = SX at *
  generalize c.st = st at *
  generalize c.sz = sz at *
  generalize c.dg = dg at *
  generalize c.bl = bl at *
  generalize c.hs = hs at *
  generalize c.sl = sl at *
  generalize c.vs = vs at *
  generalize c.qu = qu at *
  generalize c.ev = ev at *
  generalize c.id = id at *
  generalize c.li = li at *
  generalize c.fa = fa at *
  generalize c.en = en at *
  generalize c.ov = ov at *
  generalize c.xv = xv at *
  generalize c.sd = sd at *
  clear hc
  go_enter Try.func8, Try.ntmps8
  have hal := (Below.refl w.heap.size w).alloc (Nat.le_refl _) (.cells cc 27)
  replace K := Lib.hid (K.out.trans (hal.mono K.out.size))
  have N := Lib.hid (Blk.new w 27 cc)
  clear hal
  go_upto_region 1 with fail
  dsimp only [List.append]
  have L2 := (N.out.cell 0).trans Q0.out
  go_wp2_with fail
  clear L2
  have hzV1 : Hid ((w.alloc (.cells cc 27)).heap.size = w.heap.size + 1) := by show _ = _; simp only [World.size_alloc]
  generalize (w.alloc (.cells cc 27)) = V1 at *
  refine (same_below (C0.out V1)).mono ?_
  rintro e V2 ⟨rfl, hy⟩
  replace K := Lib.hid (K.out.trans (hy.mono K.out.size))
  replace N := Lib.hid (N.out.below hy N.out.lt)
  clear hy
  have L3 := (N.out.cell 1).trans Q1.out
  go_wp2_with fail
  clear L3
  refine (same_below (C1.out V2)).mono ?_
  rintro e V3 ⟨rfl, hy⟩
  replace K := Lib.hid (K.out.trans (hy.mono K.out.size))
  replace N := Lib.hid (N.out.below hy N.out.lt)
  clear hy
  go_wp2
  go_ret
  exact ⟨rfl, K.out⟩
set_option maxRecDepth 100000 in
set_option maxHeartbeats 4000000 in
theorem rchk_2 (c : Cf) (hc : c.Fit) (h0 : wi c.st 1 4 = true) (h1 : pw c.sz 2 1024 = true) (h2 : wi c.dg 1 16 = false) (w : World) :
    Calls Try.prog 8 #[.agg c.cs] w fun e w' => e = .returned (.bool false) ∧ Below w.heap.size w w' := by
  have K := Lib.hid (Below.refl w.heap.size w)
  have C0 := Lib.hid (fun W => within_any c.st 1 4 W)
  rw [h0] at C0
  have C1 := Lib.hid (fun W => power_any c.sz 2 1024 (by decide) (by decide) W)
  rw [h1] at C1
  have C2 := Lib.hid (fun W => within_any c.dg 1 16 W)
  rw [h2] at C2
  obtain ⟨b0, b1, b2, b3, b4, b5, b6, b7, b8, b9, b10, b11, b12, b13, b14, b15⟩ := cf_get c hc
  have Q0 := Lib.hid b0
  have Q1 := Lib.hid b1
  have Q2 := Lib.hid b2
  have Q3 := Lib.hid b3
  have Q4 := Lib.hid b4
  have Q5 := Lib.hid b5
  have Q6 := Lib.hid b6
  have Q7 := Lib.hid b7
  have Q8 := Lib.hid b8
  have Q9 := Lib.hid b9
  have Q10 := Lib.hid b10
  have Q11 := Lib.hid b11
  have Q12 := Lib.hid b12
  have Q13 := Lib.hid b13
  have Q14 := Lib.hid b14
  have Q15 := Lib.hid b15
  clear b0 b1 b2 b3 b4 b5 b6 b7 b8 b9 b10 b11 b12 b13 b14 b15
  have CP1 := Lib.hid (cf_own c)
  have CP2 := Lib.hid (cf_own6 c hc)
  have CI1 := Lib.hid (cf_io c hc)
  have CI2 := Lib.hid (cf_ix c hc)
  have IC := Lib.hid (cf_ic c hc)
  clear h0 h1 h2
  generalize c.cs = cc at *
  generalize cellsA c.ov c.O = SO at *
  generalize cellsA c.xv c.X = SX at *
  generalize c.st = st at *
  generalize c.sz = sz at *
  generalize c.dg = dg at *
  generalize c.bl = bl at *
  generalize c.hs = hs at *
  generalize c.sl = sl at *
  generalize c.vs = vs at *
  generalize c.qu = qu at *
  generalize c.ev = ev at *
  generalize c.id = id at *
  generalize c.li = li at *
  generalize c.fa = fa at *
  generalize c.en = en at *
  generalize c.ov = ov at *
  generalize c.xv = xv at *
  generalize c.sd = sd at *
  clear hc
  go_enter Try.func8, Try.ntmps8
  have hal := (Below.refl w.heap.size w).alloc (Nat.le_refl _) (.cells cc 27)
  replace K := Lib.hid (K.out.trans (hal.mono K.out.size))
  have N := Lib.hid (Blk.new w 27 cc)
  clear hal
  go_upto_region 1 with fail
  dsimp only [List.append]
  have L4 := (N.out.cell 0).trans Q0.out
  go_wp2_with fail
  clear L4
  have hzV1 : Hid ((w.alloc (.cells cc 27)).heap.size = w.heap.size + 1) := by show _ = _; simp only [World.size_alloc]
  generalize (w.alloc (.cells cc 27)) = V1 at *
  refine (same_below (C0.out V1)).mono ?_
  rintro e V2 ⟨rfl, hy⟩
  replace K := Lib.hid (K.out.trans (hy.mono K.out.size))
  replace N := Lib.hid (N.out.below hy N.out.lt)
  clear hy
  have L5 := (N.out.cell 1).trans Q1.out
  go_wp2_with fail
  clear L5
  refine (same_below (C1.out V2)).mono ?_
  rintro e V3 ⟨rfl, hy⟩
  replace K := Lib.hid (K.out.trans (hy.mono K.out.size))
  replace N := Lib.hid (N.out.below hy N.out.lt)
  clear hy
  have L6 := (N.out.cell 2).trans Q2.out
  go_wp2_with fail
  clear L6
  refine (same_below (C2.out V3)).mono ?_
  rintro e V4 ⟨rfl, hy⟩
  replace K := Lib.hid (K.out.trans (hy.mono K.out.size))
  replace N := Lib.hid (N.out.below hy N.out.lt)
  clear hy
  go_wp2
  go_ret
  exact ⟨rfl, K.out⟩
set_option maxRecDepth 100000 in
set_option maxHeartbeats 4000000 in
theorem rchk_3 (c : Cf) (hc : c.Fit) (h0 : wi c.st 1 4 = true) (h1 : pw c.sz 2 1024 = true) (h2 : wi c.dg 1 16 = true) (h3 : pw c.bl 8 65536 = false) (w : World) :
    Calls Try.prog 8 #[.agg c.cs] w fun e w' => e = .returned (.bool false) ∧ Below w.heap.size w w' := by
  have K := Lib.hid (Below.refl w.heap.size w)
  have C0 := Lib.hid (fun W => within_any c.st 1 4 W)
  rw [h0] at C0
  have C1 := Lib.hid (fun W => power_any c.sz 2 1024 (by decide) (by decide) W)
  rw [h1] at C1
  have C2 := Lib.hid (fun W => within_any c.dg 1 16 W)
  rw [h2] at C2
  have C3 := Lib.hid (fun W => power_any c.bl 8 65536 (by decide) (by decide) W)
  rw [h3] at C3
  obtain ⟨b0, b1, b2, b3, b4, b5, b6, b7, b8, b9, b10, b11, b12, b13, b14, b15⟩ := cf_get c hc
  have Q0 := Lib.hid b0
  have Q1 := Lib.hid b1
  have Q2 := Lib.hid b2
  have Q3 := Lib.hid b3
  have Q4 := Lib.hid b4
  have Q5 := Lib.hid b5
  have Q6 := Lib.hid b6
  have Q7 := Lib.hid b7
  have Q8 := Lib.hid b8
  have Q9 := Lib.hid b9
  have Q10 := Lib.hid b10
  have Q11 := Lib.hid b11
  have Q12 := Lib.hid b12
  have Q13 := Lib.hid b13
  have Q14 := Lib.hid b14
  have Q15 := Lib.hid b15
  clear b0 b1 b2 b3 b4 b5 b6 b7 b8 b9 b10 b11 b12 b13 b14 b15
  have CP1 := Lib.hid (cf_own c)
  have CP2 := Lib.hid (cf_own6 c hc)
  have CI1 := Lib.hid (cf_io c hc)
  have CI2 := Lib.hid (cf_ix c hc)
  have IC := Lib.hid (cf_ic c hc)
  clear h0 h1 h2 h3
  generalize c.cs = cc at *
  generalize cellsA c.ov c.O = SO at *
  generalize cellsA c.xv c.X = SX at *
  generalize c.st = st at *
  generalize c.sz = sz at *
  generalize c.dg = dg at *
  generalize c.bl = bl at *
  generalize c.hs = hs at *
  generalize c.sl = sl at *
  generalize c.vs = vs at *
  generalize c.qu = qu at *
  generalize c.ev = ev at *
  generalize c.id = id at *
  generalize c.li = li at *
  generalize c.fa = fa at *
  generalize c.en = en at *
  generalize c.ov = ov at *
  generalize c.xv = xv at *
  generalize c.sd = sd at *
  clear hc
  go_enter Try.func8, Try.ntmps8
  have hal := (Below.refl w.heap.size w).alloc (Nat.le_refl _) (.cells cc 27)
  replace K := Lib.hid (K.out.trans (hal.mono K.out.size))
  have N := Lib.hid (Blk.new w 27 cc)
  clear hal
  go_upto_region 1 with fail
  dsimp only [List.append]
  have L7 := (N.out.cell 0).trans Q0.out
  go_wp2_with fail
  clear L7
  have hzV1 : Hid ((w.alloc (.cells cc 27)).heap.size = w.heap.size + 1) := by show _ = _; simp only [World.size_alloc]
  generalize (w.alloc (.cells cc 27)) = V1 at *
  refine (same_below (C0.out V1)).mono ?_
  rintro e V2 ⟨rfl, hy⟩
  replace K := Lib.hid (K.out.trans (hy.mono K.out.size))
  replace N := Lib.hid (N.out.below hy N.out.lt)
  clear hy
  have L8 := (N.out.cell 1).trans Q1.out
  go_wp2_with fail
  clear L8
  refine (same_below (C1.out V2)).mono ?_
  rintro e V3 ⟨rfl, hy⟩
  replace K := Lib.hid (K.out.trans (hy.mono K.out.size))
  replace N := Lib.hid (N.out.below hy N.out.lt)
  clear hy
  have L9 := (N.out.cell 2).trans Q2.out
  go_wp2_with fail
  clear L9
  refine (same_below (C2.out V3)).mono ?_
  rintro e V4 ⟨rfl, hy⟩
  replace K := Lib.hid (K.out.trans (hy.mono K.out.size))
  replace N := Lib.hid (N.out.below hy N.out.lt)
  clear hy
  have L10 := (N.out.cell 3).trans Q3.out
  go_wp2_with fail
  clear L10
  refine (same_below (C3.out V4)).mono ?_
  rintro e V5 ⟨rfl, hy⟩
  replace K := Lib.hid (K.out.trans (hy.mono K.out.size))
  replace N := Lib.hid (N.out.below hy N.out.lt)
  clear hy
  go_wp2
  go_ret
  exact ⟨rfl, K.out⟩
set_option maxRecDepth 100000 in
set_option maxHeartbeats 4000000 in
theorem rchk_4 (c : Cf) (hc : c.Fit) (h0 : wi c.st 1 4 = true) (h1 : pw c.sz 2 1024 = true) (h2 : wi c.dg 1 16 = true) (h3 : pw c.bl 8 65536 = true) (h4 : wi c.hs 1 4 = false) (w : World) :
    Calls Try.prog 8 #[.agg c.cs] w fun e w' => e = .returned (.bool false) ∧ Below w.heap.size w w' := by
  have K := Lib.hid (Below.refl w.heap.size w)
  have C0 := Lib.hid (fun W => within_any c.st 1 4 W)
  rw [h0] at C0
  have C1 := Lib.hid (fun W => power_any c.sz 2 1024 (by decide) (by decide) W)
  rw [h1] at C1
  have C2 := Lib.hid (fun W => within_any c.dg 1 16 W)
  rw [h2] at C2
  have C3 := Lib.hid (fun W => power_any c.bl 8 65536 (by decide) (by decide) W)
  rw [h3] at C3
  have C4 := Lib.hid (fun W => within_any c.hs 1 4 W)
  rw [h4] at C4
  obtain ⟨b0, b1, b2, b3, b4, b5, b6, b7, b8, b9, b10, b11, b12, b13, b14, b15⟩ := cf_get c hc
  have Q0 := Lib.hid b0
  have Q1 := Lib.hid b1
  have Q2 := Lib.hid b2
  have Q3 := Lib.hid b3
  have Q4 := Lib.hid b4
  have Q5 := Lib.hid b5
  have Q6 := Lib.hid b6
  have Q7 := Lib.hid b7
  have Q8 := Lib.hid b8
  have Q9 := Lib.hid b9
  have Q10 := Lib.hid b10
  have Q11 := Lib.hid b11
  have Q12 := Lib.hid b12
  have Q13 := Lib.hid b13
  have Q14 := Lib.hid b14
  have Q15 := Lib.hid b15
  clear b0 b1 b2 b3 b4 b5 b6 b7 b8 b9 b10 b11 b12 b13 b14 b15
  have CP1 := Lib.hid (cf_own c)
  have CP2 := Lib.hid (cf_own6 c hc)
  have CI1 := Lib.hid (cf_io c hc)
  have CI2 := Lib.hid (cf_ix c hc)
  have IC := Lib.hid (cf_ic c hc)
  clear h0 h1 h2 h3 h4
  generalize c.cs = cc at *
  generalize cellsA c.ov c.O = SO at *
  generalize cellsA c.xv c.X = SX at *
  generalize c.st = st at *
  generalize c.sz = sz at *
  generalize c.dg = dg at *
  generalize c.bl = bl at *
  generalize c.hs = hs at *
  generalize c.sl = sl at *
  generalize c.vs = vs at *
  generalize c.qu = qu at *
  generalize c.ev = ev at *
  generalize c.id = id at *
  generalize c.li = li at *
  generalize c.fa = fa at *
  generalize c.en = en at *
  generalize c.ov = ov at *
  generalize c.xv = xv at *
  generalize c.sd = sd at *
  clear hc
  go_enter Try.func8, Try.ntmps8
  have hal := (Below.refl w.heap.size w).alloc (Nat.le_refl _) (.cells cc 27)
  replace K := Lib.hid (K.out.trans (hal.mono K.out.size))
  have N := Lib.hid (Blk.new w 27 cc)
  clear hal
  go_upto_region 1 with fail
  dsimp only [List.append]
  have L11 := (N.out.cell 0).trans Q0.out
  go_wp2_with fail
  clear L11
  have hzV1 : Hid ((w.alloc (.cells cc 27)).heap.size = w.heap.size + 1) := by show _ = _; simp only [World.size_alloc]
  generalize (w.alloc (.cells cc 27)) = V1 at *
  refine (same_below (C0.out V1)).mono ?_
  rintro e V2 ⟨rfl, hy⟩
  replace K := Lib.hid (K.out.trans (hy.mono K.out.size))
  replace N := Lib.hid (N.out.below hy N.out.lt)
  clear hy
  have L12 := (N.out.cell 1).trans Q1.out
  go_wp2_with fail
  clear L12
  refine (same_below (C1.out V2)).mono ?_
  rintro e V3 ⟨rfl, hy⟩
  replace K := Lib.hid (K.out.trans (hy.mono K.out.size))
  replace N := Lib.hid (N.out.below hy N.out.lt)
  clear hy
  have L13 := (N.out.cell 2).trans Q2.out
  go_wp2_with fail
  clear L13
  refine (same_below (C2.out V3)).mono ?_
  rintro e V4 ⟨rfl, hy⟩
  replace K := Lib.hid (K.out.trans (hy.mono K.out.size))
  replace N := Lib.hid (N.out.below hy N.out.lt)
  clear hy
  have L14 := (N.out.cell 3).trans Q3.out
  go_wp2_with fail
  clear L14
  refine (same_below (C3.out V4)).mono ?_
  rintro e V5 ⟨rfl, hy⟩
  replace K := Lib.hid (K.out.trans (hy.mono K.out.size))
  replace N := Lib.hid (N.out.below hy N.out.lt)
  clear hy
  have L15 := (N.out.cell 4).trans Q4.out
  go_wp2_with fail
  clear L15
  refine (same_below (C4.out V5)).mono ?_
  rintro e V6 ⟨rfl, hy⟩
  replace K := Lib.hid (K.out.trans (hy.mono K.out.size))
  replace N := Lib.hid (N.out.below hy N.out.lt)
  clear hy
  go_wp2
  go_ret
  exact ⟨rfl, K.out⟩
set_option maxRecDepth 100000 in
set_option maxHeartbeats 4000000 in
theorem rchk_5 (c : Cf) (hc : c.Fit) (h0 : wi c.st 1 4 = true) (h1 : pw c.sz 2 1024 = true) (h2 : wi c.dg 1 16 = true) (h3 : pw c.bl 8 65536 = true) (h4 : wi c.hs 1 4 = true) (h5 : wi c.sl 1 64 = false) (w : World) :
    Calls Try.prog 8 #[.agg c.cs] w fun e w' => e = .returned (.bool false) ∧ Below w.heap.size w w' := by
  have K := Lib.hid (Below.refl w.heap.size w)
  have C0 := Lib.hid (fun W => within_any c.st 1 4 W)
  rw [h0] at C0
  have C1 := Lib.hid (fun W => power_any c.sz 2 1024 (by decide) (by decide) W)
  rw [h1] at C1
  have C2 := Lib.hid (fun W => within_any c.dg 1 16 W)
  rw [h2] at C2
  have C3 := Lib.hid (fun W => power_any c.bl 8 65536 (by decide) (by decide) W)
  rw [h3] at C3
  have C4 := Lib.hid (fun W => within_any c.hs 1 4 W)
  rw [h4] at C4
  have C5 := Lib.hid (fun W => within_any c.sl 1 64 W)
  rw [h5] at C5
  obtain ⟨b0, b1, b2, b3, b4, b5, b6, b7, b8, b9, b10, b11, b12, b13, b14, b15⟩ := cf_get c hc
  have Q0 := Lib.hid b0
  have Q1 := Lib.hid b1
  have Q2 := Lib.hid b2
  have Q3 := Lib.hid b3
  have Q4 := Lib.hid b4
  have Q5 := Lib.hid b5
  have Q6 := Lib.hid b6
  have Q7 := Lib.hid b7
  have Q8 := Lib.hid b8
  have Q9 := Lib.hid b9
  have Q10 := Lib.hid b10
  have Q11 := Lib.hid b11
  have Q12 := Lib.hid b12
  have Q13 := Lib.hid b13
  have Q14 := Lib.hid b14
  have Q15 := Lib.hid b15
  clear b0 b1 b2 b3 b4 b5 b6 b7 b8 b9 b10 b11 b12 b13 b14 b15
  have CP1 := Lib.hid (cf_own c)
  have CP2 := Lib.hid (cf_own6 c hc)
  have CI1 := Lib.hid (cf_io c hc)
  have CI2 := Lib.hid (cf_ix c hc)
  have IC := Lib.hid (cf_ic c hc)
  clear h0 h1 h2 h3 h4 h5
  generalize c.cs = cc at *
  generalize cellsA c.ov c.O = SO at *
  generalize cellsA c.xv c.X = SX at *
  generalize c.st = st at *
  generalize c.sz = sz at *
  generalize c.dg = dg at *
  generalize c.bl = bl at *
  generalize c.hs = hs at *
  generalize c.sl = sl at *
  generalize c.vs = vs at *
  generalize c.qu = qu at *
  generalize c.ev = ev at *
  generalize c.id = id at *
  generalize c.li = li at *
  generalize c.fa = fa at *
  generalize c.en = en at *
  generalize c.ov = ov at *
  generalize c.xv = xv at *
  generalize c.sd = sd at *
  clear hc
  go_enter Try.func8, Try.ntmps8
  have hal := (Below.refl w.heap.size w).alloc (Nat.le_refl _) (.cells cc 27)
  replace K := Lib.hid (K.out.trans (hal.mono K.out.size))
  have N := Lib.hid (Blk.new w 27 cc)
  clear hal
  go_upto_region 1 with fail
  dsimp only [List.append]
  have L16 := (N.out.cell 0).trans Q0.out
  go_wp2_with fail
  clear L16
  have hzV1 : Hid ((w.alloc (.cells cc 27)).heap.size = w.heap.size + 1) := by show _ = _; simp only [World.size_alloc]
  generalize (w.alloc (.cells cc 27)) = V1 at *
  refine (same_below (C0.out V1)).mono ?_
  rintro e V2 ⟨rfl, hy⟩
  replace K := Lib.hid (K.out.trans (hy.mono K.out.size))
  replace N := Lib.hid (N.out.below hy N.out.lt)
  clear hy
  have L17 := (N.out.cell 1).trans Q1.out
  go_wp2_with fail
  clear L17
  refine (same_below (C1.out V2)).mono ?_
  rintro e V3 ⟨rfl, hy⟩
  replace K := Lib.hid (K.out.trans (hy.mono K.out.size))
  replace N := Lib.hid (N.out.below hy N.out.lt)
  clear hy
  have L18 := (N.out.cell 2).trans Q2.out
  go_wp2_with fail
  clear L18
  refine (same_below (C2.out V3)).mono ?_
  rintro e V4 ⟨rfl, hy⟩
  replace K := Lib.hid (K.out.trans (hy.mono K.out.size))
  replace N := Lib.hid (N.out.below hy N.out.lt)
  clear hy
  have L19 := (N.out.cell 3).trans Q3.out
  go_wp2_with fail
  clear L19
  refine (same_below (C3.out V4)).mono ?_
  rintro e V5 ⟨rfl, hy⟩
  replace K := Lib.hid (K.out.trans (hy.mono K.out.size))
  replace N := Lib.hid (N.out.below hy N.out.lt)
  clear hy
  have L20 := (N.out.cell 4).trans Q4.out
  go_wp2_with fail
  clear L20
  refine (same_below (C4.out V5)).mono ?_
  rintro e V6 ⟨rfl, hy⟩
  replace K := Lib.hid (K.out.trans (hy.mono K.out.size))
  replace N := Lib.hid (N.out.below hy N.out.lt)
  clear hy
  have L21 := (N.out.cell 5).trans Q5.out
  go_wp2_with fail
  clear L21
  refine (same_below (C5.out V6)).mono ?_
  rintro e V7 ⟨rfl, hy⟩
  replace K := Lib.hid (K.out.trans (hy.mono K.out.size))
  replace N := Lib.hid (N.out.below hy N.out.lt)
  clear hy
  go_wp2
  go_ret
  exact ⟨rfl, K.out⟩
set_option maxRecDepth 100000 in
set_option maxHeartbeats 4000000 in
theorem rchk_6 (c : Cf) (hc : c.Fit) (h0 : wi c.st 1 4 = true) (h1 : pw c.sz 2 1024 = true) (h2 : wi c.dg 1 16 = true) (h3 : pw c.bl 8 65536 = true) (h4 : wi c.hs 1 4 = true) (h5 : wi c.sl 1 64 = true) (h6 : wi c.vs 2 16 = false) (w : World) :
    Calls Try.prog 8 #[.agg c.cs] w fun e w' => e = .returned (.bool false) ∧ Below w.heap.size w w' := by
  have K := Lib.hid (Below.refl w.heap.size w)
  have C0 := Lib.hid (fun W => within_any c.st 1 4 W)
  rw [h0] at C0
  have C1 := Lib.hid (fun W => power_any c.sz 2 1024 (by decide) (by decide) W)
  rw [h1] at C1
  have C2 := Lib.hid (fun W => within_any c.dg 1 16 W)
  rw [h2] at C2
  have C3 := Lib.hid (fun W => power_any c.bl 8 65536 (by decide) (by decide) W)
  rw [h3] at C3
  have C4 := Lib.hid (fun W => within_any c.hs 1 4 W)
  rw [h4] at C4
  have C5 := Lib.hid (fun W => within_any c.sl 1 64 W)
  rw [h5] at C5
  have C6 := Lib.hid (fun W => within_any c.vs 2 16 W)
  rw [h6] at C6
  obtain ⟨b0, b1, b2, b3, b4, b5, b6, b7, b8, b9, b10, b11, b12, b13, b14, b15⟩ := cf_get c hc
  have Q0 := Lib.hid b0
  have Q1 := Lib.hid b1
  have Q2 := Lib.hid b2
  have Q3 := Lib.hid b3
  have Q4 := Lib.hid b4
  have Q5 := Lib.hid b5
  have Q6 := Lib.hid b6
  have Q7 := Lib.hid b7
  have Q8 := Lib.hid b8
  have Q9 := Lib.hid b9
  have Q10 := Lib.hid b10
  have Q11 := Lib.hid b11
  have Q12 := Lib.hid b12
  have Q13 := Lib.hid b13
  have Q14 := Lib.hid b14
  have Q15 := Lib.hid b15
  clear b0 b1 b2 b3 b4 b5 b6 b7 b8 b9 b10 b11 b12 b13 b14 b15
  have CP1 := Lib.hid (cf_own c)
  have CP2 := Lib.hid (cf_own6 c hc)
  have CI1 := Lib.hid (cf_io c hc)
  have CI2 := Lib.hid (cf_ix c hc)
  have IC := Lib.hid (cf_ic c hc)
  clear h0 h1 h2 h3 h4 h5 h6
  generalize c.cs = cc at *
  generalize cellsA c.ov c.O = SO at *
  generalize cellsA c.xv c.X = SX at *
  generalize c.st = st at *
  generalize c.sz = sz at *
  generalize c.dg = dg at *
  generalize c.bl = bl at *
  generalize c.hs = hs at *
  generalize c.sl = sl at *
  generalize c.vs = vs at *
  generalize c.qu = qu at *
  generalize c.ev = ev at *
  generalize c.id = id at *
  generalize c.li = li at *
  generalize c.fa = fa at *
  generalize c.en = en at *
  generalize c.ov = ov at *
  generalize c.xv = xv at *
  generalize c.sd = sd at *
  clear hc
  go_enter Try.func8, Try.ntmps8
  have hal := (Below.refl w.heap.size w).alloc (Nat.le_refl _) (.cells cc 27)
  replace K := Lib.hid (K.out.trans (hal.mono K.out.size))
  have N := Lib.hid (Blk.new w 27 cc)
  clear hal
  go_upto_region 1 with fail
  dsimp only [List.append]
  have L22 := (N.out.cell 0).trans Q0.out
  go_wp2_with fail
  clear L22
  have hzV1 : Hid ((w.alloc (.cells cc 27)).heap.size = w.heap.size + 1) := by show _ = _; simp only [World.size_alloc]
  generalize (w.alloc (.cells cc 27)) = V1 at *
  refine (same_below (C0.out V1)).mono ?_
  rintro e V2 ⟨rfl, hy⟩
  replace K := Lib.hid (K.out.trans (hy.mono K.out.size))
  replace N := Lib.hid (N.out.below hy N.out.lt)
  clear hy
  have L23 := (N.out.cell 1).trans Q1.out
  go_wp2_with fail
  clear L23
  refine (same_below (C1.out V2)).mono ?_
  rintro e V3 ⟨rfl, hy⟩
  replace K := Lib.hid (K.out.trans (hy.mono K.out.size))
  replace N := Lib.hid (N.out.below hy N.out.lt)
  clear hy
  have L24 := (N.out.cell 2).trans Q2.out
  go_wp2_with fail
  clear L24
  refine (same_below (C2.out V3)).mono ?_
  rintro e V4 ⟨rfl, hy⟩
  replace K := Lib.hid (K.out.trans (hy.mono K.out.size))
  replace N := Lib.hid (N.out.below hy N.out.lt)
  clear hy
  have L25 := (N.out.cell 3).trans Q3.out
  go_wp2_with fail
  clear L25
  refine (same_below (C3.out V4)).mono ?_
  rintro e V5 ⟨rfl, hy⟩
  replace K := Lib.hid (K.out.trans (hy.mono K.out.size))
  replace N := Lib.hid (N.out.below hy N.out.lt)
  clear hy
  have L26 := (N.out.cell 4).trans Q4.out
  go_wp2_with fail
  clear L26
  refine (same_below (C4.out V5)).mono ?_
  rintro e V6 ⟨rfl, hy⟩
  replace K := Lib.hid (K.out.trans (hy.mono K.out.size))
  replace N := Lib.hid (N.out.below hy N.out.lt)
  clear hy
  have L27 := (N.out.cell 5).trans Q5.out
  go_wp2_with fail
  clear L27
  refine (same_below (C5.out V6)).mono ?_
  rintro e V7 ⟨rfl, hy⟩
  replace K := Lib.hid (K.out.trans (hy.mono K.out.size))
  replace N := Lib.hid (N.out.below hy N.out.lt)
  clear hy
  have L28 := (N.out.cell 6).trans Q6.out
  go_wp2_with fail
  clear L28
  refine (same_below (C6.out V7)).mono ?_
  rintro e V8 ⟨rfl, hy⟩
  replace K := Lib.hid (K.out.trans (hy.mono K.out.size))
  replace N := Lib.hid (N.out.below hy N.out.lt)
  clear hy
  go_wp2
  go_ret
  exact ⟨rfl, K.out⟩
set_option maxRecDepth 100000 in
set_option maxHeartbeats 4000000 in
theorem rchk_7 (c : Cf) (hc : c.Fit) (h0 : wi c.st 1 4 = true) (h1 : pw c.sz 2 1024 = true) (h2 : wi c.dg 1 16 = true) (h3 : pw c.bl 8 65536 = true) (h4 : wi c.hs 1 4 = true) (h5 : wi c.sl 1 64 = true) (h6 : wi c.vs 2 16 = true) (h7 : wi c.qu 1 256 = false) (w : World) :
    Calls Try.prog 8 #[.agg c.cs] w fun e w' => e = .returned (.bool false) ∧ Below w.heap.size w w' := by
  have K := Lib.hid (Below.refl w.heap.size w)
  have C0 := Lib.hid (fun W => within_any c.st 1 4 W)
  rw [h0] at C0
  have C1 := Lib.hid (fun W => power_any c.sz 2 1024 (by decide) (by decide) W)
  rw [h1] at C1
  have C2 := Lib.hid (fun W => within_any c.dg 1 16 W)
  rw [h2] at C2
  have C3 := Lib.hid (fun W => power_any c.bl 8 65536 (by decide) (by decide) W)
  rw [h3] at C3
  have C4 := Lib.hid (fun W => within_any c.hs 1 4 W)
  rw [h4] at C4
  have C5 := Lib.hid (fun W => within_any c.sl 1 64 W)
  rw [h5] at C5
  have C6 := Lib.hid (fun W => within_any c.vs 2 16 W)
  rw [h6] at C6
  have C7 := Lib.hid (fun W => within_any c.qu 1 256 W)
  rw [h7] at C7
  obtain ⟨b0, b1, b2, b3, b4, b5, b6, b7, b8, b9, b10, b11, b12, b13, b14, b15⟩ := cf_get c hc
  have Q0 := Lib.hid b0
  have Q1 := Lib.hid b1
  have Q2 := Lib.hid b2
  have Q3 := Lib.hid b3
  have Q4 := Lib.hid b4
  have Q5 := Lib.hid b5
  have Q6 := Lib.hid b6
  have Q7 := Lib.hid b7
  have Q8 := Lib.hid b8
  have Q9 := Lib.hid b9
  have Q10 := Lib.hid b10
  have Q11 := Lib.hid b11
  have Q12 := Lib.hid b12
  have Q13 := Lib.hid b13
  have Q14 := Lib.hid b14
  have Q15 := Lib.hid b15
  clear b0 b1 b2 b3 b4 b5 b6 b7 b8 b9 b10 b11 b12 b13 b14 b15
  have CP1 := Lib.hid (cf_own c)
  have CP2 := Lib.hid (cf_own6 c hc)
  have CI1 := Lib.hid (cf_io c hc)
  have CI2 := Lib.hid (cf_ix c hc)
  have IC := Lib.hid (cf_ic c hc)
  clear h0 h1 h2 h3 h4 h5 h6 h7
  generalize c.cs = cc at *
  generalize cellsA c.ov c.O = SO at *
  generalize cellsA c.xv c.X = SX at *
  generalize c.st = st at *
  generalize c.sz = sz at *
  generalize c.dg = dg at *
  generalize c.bl = bl at *
  generalize c.hs = hs at *
  generalize c.sl = sl at *
  generalize c.vs = vs at *
  generalize c.qu = qu at *
  generalize c.ev = ev at *
  generalize c.id = id at *
  generalize c.li = li at *
  generalize c.fa = fa at *
  generalize c.en = en at *
  generalize c.ov = ov at *
  generalize c.xv = xv at *
  generalize c.sd = sd at *
  clear hc
  go_enter Try.func8, Try.ntmps8
  have hal := (Below.refl w.heap.size w).alloc (Nat.le_refl _) (.cells cc 27)
  replace K := Lib.hid (K.out.trans (hal.mono K.out.size))
  have N := Lib.hid (Blk.new w 27 cc)
  clear hal
  go_upto_region 1 with fail
  dsimp only [List.append]
  have L29 := (N.out.cell 0).trans Q0.out
  go_wp2_with fail
  clear L29
  have hzV1 : Hid ((w.alloc (.cells cc 27)).heap.size = w.heap.size + 1) := by show _ = _; simp only [World.size_alloc]
  generalize (w.alloc (.cells cc 27)) = V1 at *
  refine (same_below (C0.out V1)).mono ?_
  rintro e V2 ⟨rfl, hy⟩
  replace K := Lib.hid (K.out.trans (hy.mono K.out.size))
  replace N := Lib.hid (N.out.below hy N.out.lt)
  clear hy
  have L30 := (N.out.cell 1).trans Q1.out
  go_wp2_with fail
  clear L30
  refine (same_below (C1.out V2)).mono ?_
  rintro e V3 ⟨rfl, hy⟩
  replace K := Lib.hid (K.out.trans (hy.mono K.out.size))
  replace N := Lib.hid (N.out.below hy N.out.lt)
  clear hy
  have L31 := (N.out.cell 2).trans Q2.out
  go_wp2_with fail
  clear L31
  refine (same_below (C2.out V3)).mono ?_
  rintro e V4 ⟨rfl, hy⟩
  replace K := Lib.hid (K.out.trans (hy.mono K.out.size))
  replace N := Lib.hid (N.out.below hy N.out.lt)
  clear hy
  have L32 := (N.out.cell 3).trans Q3.out
  go_wp2_with fail
  clear L32
  refine (same_below (C3.out V4)).mono ?_
  rintro e V5 ⟨rfl, hy⟩
  replace K := Lib.hid (K.out.trans (hy.mono K.out.size))
  replace N := Lib.hid (N.out.below hy N.out.lt)
  clear hy
  have L33 := (N.out.cell 4).trans Q4.out
  go_wp2_with fail
  clear L33
  refine (same_below (C4.out V5)).mono ?_
  rintro e V6 ⟨rfl, hy⟩
  replace K := Lib.hid (K.out.trans (hy.mono K.out.size))
  replace N := Lib.hid (N.out.below hy N.out.lt)
  clear hy
  have L34 := (N.out.cell 5).trans Q5.out
  go_wp2_with fail
  clear L34
  refine (same_below (C5.out V6)).mono ?_
  rintro e V7 ⟨rfl, hy⟩
  replace K := Lib.hid (K.out.trans (hy.mono K.out.size))
  replace N := Lib.hid (N.out.below hy N.out.lt)
  clear hy
  have L35 := (N.out.cell 6).trans Q6.out
  go_wp2_with fail
  clear L35
  refine (same_below (C6.out V7)).mono ?_
  rintro e V8 ⟨rfl, hy⟩
  replace K := Lib.hid (K.out.trans (hy.mono K.out.size))
  replace N := Lib.hid (N.out.below hy N.out.lt)
  clear hy
  have L36 := (N.out.cell 7).trans Q7.out
  go_wp2_with fail
  clear L36
  refine (same_below (C7.out V8)).mono ?_
  rintro e V9 ⟨rfl, hy⟩
  replace K := Lib.hid (K.out.trans (hy.mono K.out.size))
  replace N := Lib.hid (N.out.below hy N.out.lt)
  clear hy
  go_wp2
  go_ret
  exact ⟨rfl, K.out⟩
set_option maxRecDepth 100000 in
set_option maxHeartbeats 4000000 in
theorem rchk_8 (c : Cf) (hc : c.Fit) (h0 : wi c.st 1 4 = true) (h1 : pw c.sz 2 1024 = true) (h2 : wi c.dg 1 16 = true) (h3 : pw c.bl 8 65536 = true) (h4 : wi c.hs 1 4 = true) (h5 : wi c.sl 1 64 = true) (h6 : wi c.vs 2 16 = true) (h7 : wi c.qu 1 256 = true) (h8 : wi c.ev 1 64 = false) (w : World) :
    Calls Try.prog 8 #[.agg c.cs] w fun e w' => e = .returned (.bool false) ∧ Below w.heap.size w w' := by
  have K := Lib.hid (Below.refl w.heap.size w)
  have C0 := Lib.hid (fun W => within_any c.st 1 4 W)
  rw [h0] at C0
  have C1 := Lib.hid (fun W => power_any c.sz 2 1024 (by decide) (by decide) W)
  rw [h1] at C1
  have C2 := Lib.hid (fun W => within_any c.dg 1 16 W)
  rw [h2] at C2
  have C3 := Lib.hid (fun W => power_any c.bl 8 65536 (by decide) (by decide) W)
  rw [h3] at C3
  have C4 := Lib.hid (fun W => within_any c.hs 1 4 W)
  rw [h4] at C4
  have C5 := Lib.hid (fun W => within_any c.sl 1 64 W)
  rw [h5] at C5
  have C6 := Lib.hid (fun W => within_any c.vs 2 16 W)
  rw [h6] at C6
  have C7 := Lib.hid (fun W => within_any c.qu 1 256 W)
  rw [h7] at C7
  have C8 := Lib.hid (fun W => within_any c.ev 1 64 W)
  rw [h8] at C8
  obtain ⟨b0, b1, b2, b3, b4, b5, b6, b7, b8, b9, b10, b11, b12, b13, b14, b15⟩ := cf_get c hc
  have Q0 := Lib.hid b0
  have Q1 := Lib.hid b1
  have Q2 := Lib.hid b2
  have Q3 := Lib.hid b3
  have Q4 := Lib.hid b4
  have Q5 := Lib.hid b5
  have Q6 := Lib.hid b6
  have Q7 := Lib.hid b7
  have Q8 := Lib.hid b8
  have Q9 := Lib.hid b9
  have Q10 := Lib.hid b10
  have Q11 := Lib.hid b11
  have Q12 := Lib.hid b12
  have Q13 := Lib.hid b13
  have Q14 := Lib.hid b14
  have Q15 := Lib.hid b15
  clear b0 b1 b2 b3 b4 b5 b6 b7 b8 b9 b10 b11 b12 b13 b14 b15
  have CP1 := Lib.hid (cf_own c)
  have CP2 := Lib.hid (cf_own6 c hc)
  have CI1 := Lib.hid (cf_io c hc)
  have CI2 := Lib.hid (cf_ix c hc)
  have IC := Lib.hid (cf_ic c hc)
  clear h0 h1 h2 h3 h4 h5 h6 h7 h8
  generalize c.cs = cc at *
  generalize cellsA c.ov c.O = SO at *
  generalize cellsA c.xv c.X = SX at *
  generalize c.st = st at *
  generalize c.sz = sz at *
  generalize c.dg = dg at *
  generalize c.bl = bl at *
  generalize c.hs = hs at *
  generalize c.sl = sl at *
  generalize c.vs = vs at *
  generalize c.qu = qu at *
  generalize c.ev = ev at *
  generalize c.id = id at *
  generalize c.li = li at *
  generalize c.fa = fa at *
  generalize c.en = en at *
  generalize c.ov = ov at *
  generalize c.xv = xv at *
  generalize c.sd = sd at *
  clear hc
  go_enter Try.func8, Try.ntmps8
  have hal := (Below.refl w.heap.size w).alloc (Nat.le_refl _) (.cells cc 27)
  replace K := Lib.hid (K.out.trans (hal.mono K.out.size))
  have N := Lib.hid (Blk.new w 27 cc)
  clear hal
  go_upto_region 1 with fail
  dsimp only [List.append]
  have L37 := (N.out.cell 0).trans Q0.out
  go_wp2_with fail
  clear L37
  have hzV1 : Hid ((w.alloc (.cells cc 27)).heap.size = w.heap.size + 1) := by show _ = _; simp only [World.size_alloc]
  generalize (w.alloc (.cells cc 27)) = V1 at *
  refine (same_below (C0.out V1)).mono ?_
  rintro e V2 ⟨rfl, hy⟩
  replace K := Lib.hid (K.out.trans (hy.mono K.out.size))
  replace N := Lib.hid (N.out.below hy N.out.lt)
  clear hy
  have L38 := (N.out.cell 1).trans Q1.out
  go_wp2_with fail
  clear L38
  refine (same_below (C1.out V2)).mono ?_
  rintro e V3 ⟨rfl, hy⟩
  replace K := Lib.hid (K.out.trans (hy.mono K.out.size))
  replace N := Lib.hid (N.out.below hy N.out.lt)
  clear hy
  have L39 := (N.out.cell 2).trans Q2.out
  go_wp2_with fail
  clear L39
  refine (same_below (C2.out V3)).mono ?_
  rintro e V4 ⟨rfl, hy⟩
  replace K := Lib.hid (K.out.trans (hy.mono K.out.size))
  replace N := Lib.hid (N.out.below hy N.out.lt)
  clear hy
  have L40 := (N.out.cell 3).trans Q3.out
  go_wp2_with fail
  clear L40
  refine (same_below (C3.out V4)).mono ?_
  rintro e V5 ⟨rfl, hy⟩
  replace K := Lib.hid (K.out.trans (hy.mono K.out.size))
  replace N := Lib.hid (N.out.below hy N.out.lt)
  clear hy
  have L41 := (N.out.cell 4).trans Q4.out
  go_wp2_with fail
  clear L41
  refine (same_below (C4.out V5)).mono ?_
  rintro e V6 ⟨rfl, hy⟩
  replace K := Lib.hid (K.out.trans (hy.mono K.out.size))
  replace N := Lib.hid (N.out.below hy N.out.lt)
  clear hy
  have L42 := (N.out.cell 5).trans Q5.out
  go_wp2_with fail
  clear L42
  refine (same_below (C5.out V6)).mono ?_
  rintro e V7 ⟨rfl, hy⟩
  replace K := Lib.hid (K.out.trans (hy.mono K.out.size))
  replace N := Lib.hid (N.out.below hy N.out.lt)
  clear hy
  have L43 := (N.out.cell 6).trans Q6.out
  go_wp2_with fail
  clear L43
  refine (same_below (C6.out V7)).mono ?_
  rintro e V8 ⟨rfl, hy⟩
  replace K := Lib.hid (K.out.trans (hy.mono K.out.size))
  replace N := Lib.hid (N.out.below hy N.out.lt)
  clear hy
  have L44 := (N.out.cell 7).trans Q7.out
  go_wp2_with fail
  clear L44
  refine (same_below (C7.out V8)).mono ?_
  rintro e V9 ⟨rfl, hy⟩
  replace K := Lib.hid (K.out.trans (hy.mono K.out.size))
  replace N := Lib.hid (N.out.below hy N.out.lt)
  clear hy
  have L45 := (N.out.cell 8).trans Q8.out
  go_wp2_with fail
  clear L45
  refine (same_below (C8.out V9)).mono ?_
  rintro e V10 ⟨rfl, hy⟩
  replace K := Lib.hid (K.out.trans (hy.mono K.out.size))
  replace N := Lib.hid (N.out.below hy N.out.lt)
  clear hy
  go_wp2
  go_ret
  exact ⟨rfl, K.out⟩
set_option maxRecDepth 100000 in
set_option maxHeartbeats 4000000 in
theorem rchk_9 (c : Cf) (hc : c.Fit) (h0 : wi c.st 1 4 = true) (h1 : pw c.sz 2 1024 = true) (h2 : wi c.dg 1 16 = true) (h3 : pw c.bl 8 65536 = true) (h4 : wi c.hs 1 4 = true) (h5 : wi c.sl 1 64 = true) (h6 : wi c.vs 2 16 = true) (h7 : wi c.qu 1 256 = true) (h8 : wi c.ev 1 64 = true) (h9 : wi c.id 1 1000 = false) (w : World) :
    Calls Try.prog 8 #[.agg c.cs] w fun e w' => e = .returned (.bool false) ∧ Below w.heap.size w w' := by
  have K := Lib.hid (Below.refl w.heap.size w)
  have C0 := Lib.hid (fun W => within_any c.st 1 4 W)
  rw [h0] at C0
  have C1 := Lib.hid (fun W => power_any c.sz 2 1024 (by decide) (by decide) W)
  rw [h1] at C1
  have C2 := Lib.hid (fun W => within_any c.dg 1 16 W)
  rw [h2] at C2
  have C3 := Lib.hid (fun W => power_any c.bl 8 65536 (by decide) (by decide) W)
  rw [h3] at C3
  have C4 := Lib.hid (fun W => within_any c.hs 1 4 W)
  rw [h4] at C4
  have C5 := Lib.hid (fun W => within_any c.sl 1 64 W)
  rw [h5] at C5
  have C6 := Lib.hid (fun W => within_any c.vs 2 16 W)
  rw [h6] at C6
  have C7 := Lib.hid (fun W => within_any c.qu 1 256 W)
  rw [h7] at C7
  have C8 := Lib.hid (fun W => within_any c.ev 1 64 W)
  rw [h8] at C8
  have C9 := Lib.hid (fun W => within_any c.id 1 1000 W)
  rw [h9] at C9
  obtain ⟨b0, b1, b2, b3, b4, b5, b6, b7, b8, b9, b10, b11, b12, b13, b14, b15⟩ := cf_get c hc
  have Q0 := Lib.hid b0
  have Q1 := Lib.hid b1
  have Q2 := Lib.hid b2
  have Q3 := Lib.hid b3
  have Q4 := Lib.hid b4
  have Q5 := Lib.hid b5
  have Q6 := Lib.hid b6
  have Q7 := Lib.hid b7
  have Q8 := Lib.hid b8
  have Q9 := Lib.hid b9
  have Q10 := Lib.hid b10
  have Q11 := Lib.hid b11
  have Q12 := Lib.hid b12
  have Q13 := Lib.hid b13
  have Q14 := Lib.hid b14
  have Q15 := Lib.hid b15
  clear b0 b1 b2 b3 b4 b5 b6 b7 b8 b9 b10 b11 b12 b13 b14 b15
  have CP1 := Lib.hid (cf_own c)
  have CP2 := Lib.hid (cf_own6 c hc)
  have CI1 := Lib.hid (cf_io c hc)
  have CI2 := Lib.hid (cf_ix c hc)
  have IC := Lib.hid (cf_ic c hc)
  clear h0 h1 h2 h3 h4 h5 h6 h7 h8 h9
  generalize c.cs = cc at *
  generalize cellsA c.ov c.O = SO at *
  generalize cellsA c.xv c.X = SX at *
  generalize c.st = st at *
  generalize c.sz = sz at *
  generalize c.dg = dg at *
  generalize c.bl = bl at *
  generalize c.hs = hs at *
  generalize c.sl = sl at *
  generalize c.vs = vs at *
  generalize c.qu = qu at *
  generalize c.ev = ev at *
  generalize c.id = id at *
  generalize c.li = li at *
  generalize c.fa = fa at *
  generalize c.en = en at *
  generalize c.ov = ov at *
  generalize c.xv = xv at *
  generalize c.sd = sd at *
  clear hc
  go_enter Try.func8, Try.ntmps8
  have hal := (Below.refl w.heap.size w).alloc (Nat.le_refl _) (.cells cc 27)
  replace K := Lib.hid (K.out.trans (hal.mono K.out.size))
  have N := Lib.hid (Blk.new w 27 cc)
  clear hal
  go_upto_region 1 with fail
  dsimp only [List.append]
  have L46 := (N.out.cell 0).trans Q0.out
  go_wp2_with fail
  clear L46
  have hzV1 : Hid ((w.alloc (.cells cc 27)).heap.size = w.heap.size + 1) := by show _ = _; simp only [World.size_alloc]
  generalize (w.alloc (.cells cc 27)) = V1 at *
  refine (same_below (C0.out V1)).mono ?_
  rintro e V2 ⟨rfl, hy⟩
  replace K := Lib.hid (K.out.trans (hy.mono K.out.size))
  replace N := Lib.hid (N.out.below hy N.out.lt)
  clear hy
  have L47 := (N.out.cell 1).trans Q1.out
  go_wp2_with fail
  clear L47
  refine (same_below (C1.out V2)).mono ?_
  rintro e V3 ⟨rfl, hy⟩
  replace K := Lib.hid (K.out.trans (hy.mono K.out.size))
  replace N := Lib.hid (N.out.below hy N.out.lt)
  clear hy
  have L48 := (N.out.cell 2).trans Q2.out
  go_wp2_with fail
  clear L48
  refine (same_below (C2.out V3)).mono ?_
  rintro e V4 ⟨rfl, hy⟩
  replace K := Lib.hid (K.out.trans (hy.mono K.out.size))
  replace N := Lib.hid (N.out.below hy N.out.lt)
  clear hy
  have L49 := (N.out.cell 3).trans Q3.out
  go_wp2_with fail
  clear L49
  refine (same_below (C3.out V4)).mono ?_
  rintro e V5 ⟨rfl, hy⟩
  replace K := Lib.hid (K.out.trans (hy.mono K.out.size))
  replace N := Lib.hid (N.out.below hy N.out.lt)
  clear hy
  have L50 := (N.out.cell 4).trans Q4.out
  go_wp2_with fail
  clear L50
  refine (same_below (C4.out V5)).mono ?_
  rintro e V6 ⟨rfl, hy⟩
  replace K := Lib.hid (K.out.trans (hy.mono K.out.size))
  replace N := Lib.hid (N.out.below hy N.out.lt)
  clear hy
  have L51 := (N.out.cell 5).trans Q5.out
  go_wp2_with fail
  clear L51
  refine (same_below (C5.out V6)).mono ?_
  rintro e V7 ⟨rfl, hy⟩
  replace K := Lib.hid (K.out.trans (hy.mono K.out.size))
  replace N := Lib.hid (N.out.below hy N.out.lt)
  clear hy
  have L52 := (N.out.cell 6).trans Q6.out
  go_wp2_with fail
  clear L52
  refine (same_below (C6.out V7)).mono ?_
  rintro e V8 ⟨rfl, hy⟩
  replace K := Lib.hid (K.out.trans (hy.mono K.out.size))
  replace N := Lib.hid (N.out.below hy N.out.lt)
  clear hy
  have L53 := (N.out.cell 7).trans Q7.out
  go_wp2_with fail
  clear L53
  refine (same_below (C7.out V8)).mono ?_
  rintro e V9 ⟨rfl, hy⟩
  replace K := Lib.hid (K.out.trans (hy.mono K.out.size))
  replace N := Lib.hid (N.out.below hy N.out.lt)
  clear hy
  have L54 := (N.out.cell 8).trans Q8.out
  go_wp2_with fail
  clear L54
  refine (same_below (C8.out V9)).mono ?_
  rintro e V10 ⟨rfl, hy⟩
  replace K := Lib.hid (K.out.trans (hy.mono K.out.size))
  replace N := Lib.hid (N.out.below hy N.out.lt)
  clear hy
  have L55 := (N.out.cell 9).trans Q9.out
  go_wp2_with fail
  clear L55
  refine (same_below (C9.out V10)).mono ?_
  rintro e V11 ⟨rfl, hy⟩
  replace K := Lib.hid (K.out.trans (hy.mono K.out.size))
  replace N := Lib.hid (N.out.below hy N.out.lt)
  clear hy
  go_wp2
  go_ret
  exact ⟨rfl, K.out⟩
set_option maxRecDepth 100000 in
set_option maxHeartbeats 4000000 in
theorem rchk_10 (c : Cf) (hc : c.Fit) (h0 : wi c.st 1 4 = true) (h1 : pw c.sz 2 1024 = true) (h2 : wi c.dg 1 16 = true) (h3 : pw c.bl 8 65536 = true) (h4 : wi c.hs 1 4 = true) (h5 : wi c.sl 1 64 = true) (h6 : wi c.vs 2 16 = true) (h7 : wi c.qu 1 256 = true) (h8 : wi c.ev 1 64 = true) (h9 : wi c.id 1 1000 = true) (h10 : wi c.li 1 1000 = false) (w : World) :
    Calls Try.prog 8 #[.agg c.cs] w fun e w' => e = .returned (.bool false) ∧ Below w.heap.size w w' := by
  have K := Lib.hid (Below.refl w.heap.size w)
  have C0 := Lib.hid (fun W => within_any c.st 1 4 W)
  rw [h0] at C0
  have C1 := Lib.hid (fun W => power_any c.sz 2 1024 (by decide) (by decide) W)
  rw [h1] at C1
  have C2 := Lib.hid (fun W => within_any c.dg 1 16 W)
  rw [h2] at C2
  have C3 := Lib.hid (fun W => power_any c.bl 8 65536 (by decide) (by decide) W)
  rw [h3] at C3
  have C4 := Lib.hid (fun W => within_any c.hs 1 4 W)
  rw [h4] at C4
  have C5 := Lib.hid (fun W => within_any c.sl 1 64 W)
  rw [h5] at C5
  have C6 := Lib.hid (fun W => within_any c.vs 2 16 W)
  rw [h6] at C6
  have C7 := Lib.hid (fun W => within_any c.qu 1 256 W)
  rw [h7] at C7
  have C8 := Lib.hid (fun W => within_any c.ev 1 64 W)
  rw [h8] at C8
  have C9 := Lib.hid (fun W => within_any c.id 1 1000 W)
  rw [h9] at C9
  have C10 := Lib.hid (fun W => within_any c.li 1 1000 W)
  rw [h10] at C10
  obtain ⟨b0, b1, b2, b3, b4, b5, b6, b7, b8, b9, b10, b11, b12, b13, b14, b15⟩ := cf_get c hc
  have Q0 := Lib.hid b0
  have Q1 := Lib.hid b1
  have Q2 := Lib.hid b2
  have Q3 := Lib.hid b3
  have Q4 := Lib.hid b4
  have Q5 := Lib.hid b5
  have Q6 := Lib.hid b6
  have Q7 := Lib.hid b7
  have Q8 := Lib.hid b8
  have Q9 := Lib.hid b9
  have Q10 := Lib.hid b10
  have Q11 := Lib.hid b11
  have Q12 := Lib.hid b12
  have Q13 := Lib.hid b13
  have Q14 := Lib.hid b14
  have Q15 := Lib.hid b15
  clear b0 b1 b2 b3 b4 b5 b6 b7 b8 b9 b10 b11 b12 b13 b14 b15
  have CP1 := Lib.hid (cf_own c)
  have CP2 := Lib.hid (cf_own6 c hc)
  have CI1 := Lib.hid (cf_io c hc)
  have CI2 := Lib.hid (cf_ix c hc)
  have IC := Lib.hid (cf_ic c hc)
  clear h0 h1 h2 h3 h4 h5 h6 h7 h8 h9 h10
  generalize c.cs = cc at *
  generalize cellsA c.ov c.O = SO at *
  generalize cellsA c.xv c.X = SX at *
  generalize c.st = st at *
  generalize c.sz = sz at *
  generalize c.dg = dg at *
  generalize c.bl = bl at *
  generalize c.hs = hs at *
  generalize c.sl = sl at *
  generalize c.vs = vs at *
  generalize c.qu = qu at *
  generalize c.ev = ev at *
  generalize c.id = id at *
  generalize c.li = li at *
  generalize c.fa = fa at *
  generalize c.en = en at *
  generalize c.ov = ov at *
  generalize c.xv = xv at *
  generalize c.sd = sd at *
  clear hc
  go_enter Try.func8, Try.ntmps8
  have hal := (Below.refl w.heap.size w).alloc (Nat.le_refl _) (.cells cc 27)
  replace K := Lib.hid (K.out.trans (hal.mono K.out.size))
  have N := Lib.hid (Blk.new w 27 cc)
  clear hal
  go_upto_region 1 with fail
  dsimp only [List.append]
  have L56 := (N.out.cell 0).trans Q0.out
  go_wp2_with fail
  clear L56
  have hzV1 : Hid ((w.alloc (.cells cc 27)).heap.size = w.heap.size + 1) := by show _ = _; simp only [World.size_alloc]
  generalize (w.alloc (.cells cc 27)) = V1 at *
  refine (same_below (C0.out V1)).mono ?_
  rintro e V2 ⟨rfl, hy⟩
  replace K := Lib.hid (K.out.trans (hy.mono K.out.size))
  replace N := Lib.hid (N.out.below hy N.out.lt)
  clear hy
  have L57 := (N.out.cell 1).trans Q1.out
  go_wp2_with fail
  clear L57
  refine (same_below (C1.out V2)).mono ?_
  rintro e V3 ⟨rfl, hy⟩
  replace K := Lib.hid (K.out.trans (hy.mono K.out.size))
  replace N := Lib.hid (N.out.below hy N.out.lt)
  clear hy
  have L58 := (N.out.cell 2).trans Q2.out
  go_wp2_with fail
  clear L58
  refine (same_below (C2.out V3)).mono ?_
  rintro e V4 ⟨rfl, hy⟩
  replace K := Lib.hid (K.out.trans (hy.mono K.out.size))
  replace N := Lib.hid (N.out.below hy N.out.lt)
  clear hy
  have L59 := (N.out.cell 3).trans Q3.out
  go_wp2_with fail
  clear L59
  refine (same_below (C3.out V4)).mono ?_
  rintro e V5 ⟨rfl, hy⟩
  replace K := Lib.hid (K.out.trans (hy.mono K.out.size))
  replace N := Lib.hid (N.out.below hy N.out.lt)
  clear hy
  have L60 := (N.out.cell 4).trans Q4.out
  go_wp2_with fail
  clear L60
  refine (same_below (C4.out V5)).mono ?_
  rintro e V6 ⟨rfl, hy⟩
  replace K := Lib.hid (K.out.trans (hy.mono K.out.size))
  replace N := Lib.hid (N.out.below hy N.out.lt)
  clear hy
  have L61 := (N.out.cell 5).trans Q5.out
  go_wp2_with fail
  clear L61
  refine (same_below (C5.out V6)).mono ?_
  rintro e V7 ⟨rfl, hy⟩
  replace K := Lib.hid (K.out.trans (hy.mono K.out.size))
  replace N := Lib.hid (N.out.below hy N.out.lt)
  clear hy
  have L62 := (N.out.cell 6).trans Q6.out
  go_wp2_with fail
  clear L62
  refine (same_below (C6.out V7)).mono ?_
  rintro e V8 ⟨rfl, hy⟩
  replace K := Lib.hid (K.out.trans (hy.mono K.out.size))
  replace N := Lib.hid (N.out.below hy N.out.lt)
  clear hy
  have L63 := (N.out.cell 7).trans Q7.out
  go_wp2_with fail
  clear L63
  refine (same_below (C7.out V8)).mono ?_
  rintro e V9 ⟨rfl, hy⟩
  replace K := Lib.hid (K.out.trans (hy.mono K.out.size))
  replace N := Lib.hid (N.out.below hy N.out.lt)
  clear hy
  have L64 := (N.out.cell 8).trans Q8.out
  go_wp2_with fail
  clear L64
  refine (same_below (C8.out V9)).mono ?_
  rintro e V10 ⟨rfl, hy⟩
  replace K := Lib.hid (K.out.trans (hy.mono K.out.size))
  replace N := Lib.hid (N.out.below hy N.out.lt)
  clear hy
  have L65 := (N.out.cell 9).trans Q9.out
  go_wp2_with fail
  clear L65
  refine (same_below (C9.out V10)).mono ?_
  rintro e V11 ⟨rfl, hy⟩
  replace K := Lib.hid (K.out.trans (hy.mono K.out.size))
  replace N := Lib.hid (N.out.below hy N.out.lt)
  clear hy
  have L66 := (N.out.cell 10).trans Q10.out
  go_wp2_with fail
  clear L66
  refine (same_below (C10.out V11)).mono ?_
  rintro e V12 ⟨rfl, hy⟩
  replace K := Lib.hid (K.out.trans (hy.mono K.out.size))
  replace N := Lib.hid (N.out.below hy N.out.lt)
  clear hy
  go_wp2
  go_ret
  exact ⟨rfl, K.out⟩
set_option maxRecDepth 100000 in
set_option maxHeartbeats 4000000 in
theorem rchk_11 (c : Cf) (hc : c.Fit) (h0 : wi c.st 1 4 = true) (h1 : pw c.sz 2 1024 = true) (h2 : wi c.dg 1 16 = true) (h3 : pw c.bl 8 65536 = true) (h4 : wi c.hs 1 4 = true) (h5 : wi c.sl 1 64 = true) (h6 : wi c.vs 2 16 = true) (h7 : wi c.qu 1 256 = true) (h8 : wi c.ev 1 64 = true) (h9 : wi c.id 1 1000 = true) (h10 : wi c.li 1 1000 = true) (h11 : wi c.fa 1 10 = false) (w : World) :
    Calls Try.prog 8 #[.agg c.cs] w fun e w' => e = .returned (.bool false) ∧ Below w.heap.size w w' := by
  have K := Lib.hid (Below.refl w.heap.size w)
  have C0 := Lib.hid (fun W => within_any c.st 1 4 W)
  rw [h0] at C0
  have C1 := Lib.hid (fun W => power_any c.sz 2 1024 (by decide) (by decide) W)
  rw [h1] at C1
  have C2 := Lib.hid (fun W => within_any c.dg 1 16 W)
  rw [h2] at C2
  have C3 := Lib.hid (fun W => power_any c.bl 8 65536 (by decide) (by decide) W)
  rw [h3] at C3
  have C4 := Lib.hid (fun W => within_any c.hs 1 4 W)
  rw [h4] at C4
  have C5 := Lib.hid (fun W => within_any c.sl 1 64 W)
  rw [h5] at C5
  have C6 := Lib.hid (fun W => within_any c.vs 2 16 W)
  rw [h6] at C6
  have C7 := Lib.hid (fun W => within_any c.qu 1 256 W)
  rw [h7] at C7
  have C8 := Lib.hid (fun W => within_any c.ev 1 64 W)
  rw [h8] at C8
  have C9 := Lib.hid (fun W => within_any c.id 1 1000 W)
  rw [h9] at C9
  have C10 := Lib.hid (fun W => within_any c.li 1 1000 W)
  rw [h10] at C10
  have C11 := Lib.hid (fun W => within_any c.fa 1 10 W)
  rw [h11] at C11
  obtain ⟨b0, b1, b2, b3, b4, b5, b6, b7, b8, b9, b10, b11, b12, b13, b14, b15⟩ := cf_get c hc
  have Q0 := Lib.hid b0
  have Q1 := Lib.hid b1
  have Q2 := Lib.hid b2
  have Q3 := Lib.hid b3
  have Q4 := Lib.hid b4
  have Q5 := Lib.hid b5
  have Q6 := Lib.hid b6
  have Q7 := Lib.hid b7
  have Q8 := Lib.hid b8
  have Q9 := Lib.hid b9
  have Q10 := Lib.hid b10
  have Q11 := Lib.hid b11
  have Q12 := Lib.hid b12
  have Q13 := Lib.hid b13
  have Q14 := Lib.hid b14
  have Q15 := Lib.hid b15
  clear b0 b1 b2 b3 b4 b5 b6 b7 b8 b9 b10 b11 b12 b13 b14 b15
  have CP1 := Lib.hid (cf_own c)
  have CP2 := Lib.hid (cf_own6 c hc)
  have CI1 := Lib.hid (cf_io c hc)
  have CI2 := Lib.hid (cf_ix c hc)
  have IC := Lib.hid (cf_ic c hc)
  clear h0 h1 h2 h3 h4 h5 h6 h7 h8 h9 h10 h11
  generalize c.cs = cc at *
  generalize cellsA c.ov c.O = SO at *
  generalize cellsA c.xv c.X = SX at *
  generalize c.st = st at *
  generalize c.sz = sz at *
  generalize c.dg = dg at *
  generalize c.bl = bl at *
  generalize c.hs = hs at *
  generalize c.sl = sl at *
  generalize c.vs = vs at *
  generalize c.qu = qu at *
  generalize c.ev = ev at *
  generalize c.id = id at *
  generalize c.li = li at *
  generalize c.fa = fa at *
  generalize c.en = en at *
  generalize c.ov = ov at *
  generalize c.xv = xv at *
  generalize c.sd = sd at *
  clear hc
  go_enter Try.func8, Try.ntmps8
  have hal := (Below.refl w.heap.size w).alloc (Nat.le_refl _) (.cells cc 27)
  replace K := Lib.hid (K.out.trans (hal.mono K.out.size))
  have N := Lib.hid (Blk.new w 27 cc)
  clear hal
  go_upto_region 1 with fail
  dsimp only [List.append]
  have L67 := (N.out.cell 0).trans Q0.out
  go_wp2_with fail
  clear L67
  have hzV1 : Hid ((w.alloc (.cells cc 27)).heap.size = w.heap.size + 1) := by show _ = _; simp only [World.size_alloc]
  generalize (w.alloc (.cells cc 27)) = V1 at *
  refine (same_below (C0.out V1)).mono ?_
  rintro e V2 ⟨rfl, hy⟩
  replace K := Lib.hid (K.out.trans (hy.mono K.out.size))
  replace N := Lib.hid (N.out.below hy N.out.lt)
  clear hy
  have L68 := (N.out.cell 1).trans Q1.out
  go_wp2_with fail
  clear L68
  refine (same_below (C1.out V2)).mono ?_
  rintro e V3 ⟨rfl, hy⟩
  replace K := Lib.hid (K.out.trans (hy.mono K.out.size))
  replace N := Lib.hid (N.out.below hy N.out.lt)
  clear hy
  have L69 := (N.out.cell 2).trans Q2.out
  go_wp2_with fail
  clear L69
  refine (same_below (C2.out V3)).mono ?_
  rintro e V4 ⟨rfl, hy⟩
  replace K := Lib.hid (K.out.trans (hy.mono K.out.size))
  replace N := Lib.hid (N.out.below hy N.out.lt)
  clear hy
  have L70 := (N.out.cell 3).trans Q3.out
  go_wp2_with fail
  clear L70
  refine (same_below (C3.out V4)).mono ?_
  rintro e V5 ⟨rfl, hy⟩
  replace K := Lib.hid (K.out.trans (hy.mono K.out.size))
  replace N := Lib.hid (N.out.below hy N.out.lt)
  clear hy
  have L71 := (N.out.cell 4).trans Q4.out
  go_wp2_with fail
  clear L71
  refine (same_below (C4.out V5)).mono ?_
  rintro e V6 ⟨rfl, hy⟩
  replace K := Lib.hid (K.out.trans (hy.mono K.out.size))
  replace N := Lib.hid (N.out.below hy N.out.lt)
  clear hy
  have L72 := (N.out.cell 5).trans Q5.out
  go_wp2_with fail
  clear L72
  refine (same_below (C5.out V6)).mono ?_
  rintro e V7 ⟨rfl, hy⟩
  replace K := Lib.hid (K.out.trans (hy.mono K.out.size))
  replace N := Lib.hid (N.out.below hy N.out.lt)
  clear hy
  have L73 := (N.out.cell 6).trans Q6.out
  go_wp2_with fail
  clear L73
  refine (same_below (C6.out V7)).mono ?_
  rintro e V8 ⟨rfl, hy⟩
  replace K := Lib.hid (K.out.trans (hy.mono K.out.size))
  replace N := Lib.hid (N.out.below hy N.out.lt)
  clear hy
  have L74 := (N.out.cell 7).trans Q7.out
  go_wp2_with fail
  clear L74
  refine (same_below (C7.out V8)).mono ?_
  rintro e V9 ⟨rfl, hy⟩
  replace K := Lib.hid (K.out.trans (hy.mono K.out.size))
  replace N := Lib.hid (N.out.below hy N.out.lt)
  clear hy
  have L75 := (N.out.cell 8).trans Q8.out
  go_wp2_with fail
  clear L75
  refine (same_below (C8.out V9)).mono ?_
  rintro e V10 ⟨rfl, hy⟩
  replace K := Lib.hid (K.out.trans (hy.mono K.out.size))
  replace N := Lib.hid (N.out.below hy N.out.lt)
  clear hy
  have L76 := (N.out.cell 9).trans Q9.out
  go_wp2_with fail
  clear L76
  refine (same_below (C9.out V10)).mono ?_
  rintro e V11 ⟨rfl, hy⟩
  replace K := Lib.hid (K.out.trans (hy.mono K.out.size))
  replace N := Lib.hid (N.out.below hy N.out.lt)
  clear hy
  have L77 := (N.out.cell 10).trans Q10.out
  go_wp2_with fail
  clear L77
  refine (same_below (C10.out V11)).mono ?_
  rintro e V12 ⟨rfl, hy⟩
  replace K := Lib.hid (K.out.trans (hy.mono K.out.size))
  replace N := Lib.hid (N.out.below hy N.out.lt)
  clear hy
  have L78 := (N.out.cell 11).trans Q11.out
  go_wp2_with fail
  clear L78
  refine (same_below (C11.out V12)).mono ?_
  rintro e V13 ⟨rfl, hy⟩
  replace K := Lib.hid (K.out.trans (hy.mono K.out.size))
  replace N := Lib.hid (N.out.below hy N.out.lt)
  clear hy
  go_wp2
  go_ret
  exact ⟨rfl, K.out⟩
set_option maxRecDepth 100000 in
set_option maxHeartbeats 4000000 in
theorem rchk_o (c : Cf) (hc : c.Fit) (h0 : wi c.st 1 4 = true) (h1 : pw c.sz 2 1024 = true) (h2 : wi c.dg 1 16 = true) (h3 : pw c.bl 8 65536 = true) (h4 : wi c.hs 1 4 = true) (h5 : wi c.sl 1 64 = true) (h6 : wi c.vs 2 16 = true) (h7 : wi c.qu 1 256 = true) (h8 : wi c.ev 1 64 = true) (h9 : wi c.id 1 1000 = true) (h10 : wi c.li 1 1000 = true) (h11 : wi c.fa 1 10 = true) (hO : vldA c.ov c.O = false) (w : World) :
    Calls Try.prog 8 #[.agg c.cs] w fun e w' => e = .returned (.bool false) ∧ Below w.heap.size w w' := by
  have K := Lib.hid (Below.refl w.heap.size w)
  have C0 := Lib.hid (fun W => within_any c.st 1 4 W)
  rw [h0] at C0
  have C1 := Lib.hid (fun W => power_any c.sz 2 1024 (by decide) (by decide) W)
  rw [h1] at C1
  have C2 := Lib.hid (fun W => within_any c.dg 1 16 W)
  rw [h2] at C2
  have C3 := Lib.hid (fun W => power_any c.bl 8 65536 (by decide) (by decide) W)
  rw [h3] at C3
  have C4 := Lib.hid (fun W => within_any c.hs 1 4 W)
  rw [h4] at C4
  have C5 := Lib.hid (fun W => within_any c.sl 1 64 W)
  rw [h5] at C5
  have C6 := Lib.hid (fun W => within_any c.vs 2 16 W)
  rw [h6] at C6
  have C7 := Lib.hid (fun W => within_any c.qu 1 256 W)
  rw [h7] at C7
  have C8 := Lib.hid (fun W => within_any c.ev 1 64 W)
  rw [h8] at C8
  have C9 := Lib.hid (fun W => within_any c.id 1 1000 W)
  rw [h9] at C9
  have C10 := Lib.hid (fun W => within_any c.li 1 1000 W)
  rw [h10] at C10
  have C11 := Lib.hid (fun W => within_any c.fa 1 10 W)
  rw [h11] at C11
  have CV1 := Lib.hid (fun W => ref_adr c.ov c.O hc.lO W)
  have CV2 := Lib.hid (fun W => ref_adr c.xv c.X hc.lX W)
  obtain ⟨b0, b1, b2, b3, b4, b5, b6, b7, b8, b9, b10, b11, b12, b13, b14, b15⟩ := cf_get c hc
  have Q0 := Lib.hid b0
  have Q1 := Lib.hid b1
  have Q2 := Lib.hid b2
  have Q3 := Lib.hid b3
  have Q4 := Lib.hid b4
  have Q5 := Lib.hid b5
  have Q6 := Lib.hid b6
  have Q7 := Lib.hid b7
  have Q8 := Lib.hid b8
  have Q9 := Lib.hid b9
  have Q10 := Lib.hid b10
  have Q11 := Lib.hid b11
  have Q12 := Lib.hid b12
  have Q13 := Lib.hid b13
  have Q14 := Lib.hid b14
  have Q15 := Lib.hid b15
  clear b0 b1 b2 b3 b4 b5 b6 b7 b8 b9 b10 b11 b12 b13 b14 b15
  have CP1 := Lib.hid (cf_own c)
  have CP2 := Lib.hid (cf_own6 c hc)
  have CI1 := Lib.hid (cf_io c hc)
  have CI2 := Lib.hid (cf_ix c hc)
  have IC := Lib.hid (cf_ic c hc)
  unfold adr at CV1 CV2
  generalize vldA c.ov c.O = vO at *
  generalize vldA c.xv c.X = vX at *
  clear h0 h1 h2 h3 h4 h5 h6 h7 h8 h9 h10 h11
  generalize c.cs = cc at *
  generalize cellsA c.ov c.O = SO at *
  generalize cellsA c.xv c.X = SX at *
  generalize c.st = st at *
  generalize c.sz = sz at *
  generalize c.dg = dg at *
  generalize c.bl = bl at *
  generalize c.hs = hs at *
  generalize c.sl = sl at *
  generalize c.vs = vs at *
  generalize c.qu = qu at *
  generalize c.ev = ev at *
  generalize c.id = id at *
  generalize c.li = li at *
  generalize c.fa = fa at *
  generalize c.en = en at *
  generalize c.ov = ov at *
  generalize c.xv = xv at *
  generalize c.sd = sd at *
  clear hc
  subst hO
  go_enter Try.func8, Try.ntmps8
  have hal := (Below.refl w.heap.size w).alloc (Nat.le_refl _) (.cells cc 27)
  replace K := Lib.hid (K.out.trans (hal.mono K.out.size))
  have N := Lib.hid (Blk.new w 27 cc)
  clear hal
  go_upto_region 1 with fail
  dsimp only [List.append]
  have L79 := (N.out.cell 0).trans Q0.out
  go_wp2_with fail
  clear L79
  have hzV1 : Hid ((w.alloc (.cells cc 27)).heap.size = w.heap.size + 1) := by show _ = _; simp only [World.size_alloc]
  generalize (w.alloc (.cells cc 27)) = V1 at *
  refine (same_below (C0.out V1)).mono ?_
  rintro e V2 ⟨rfl, hy⟩
  replace K := Lib.hid (K.out.trans (hy.mono K.out.size))
  replace N := Lib.hid (N.out.below hy N.out.lt)
  clear hy
  have L80 := (N.out.cell 1).trans Q1.out
  go_wp2_with fail
  clear L80
  refine (same_below (C1.out V2)).mono ?_
  rintro e V3 ⟨rfl, hy⟩
  replace K := Lib.hid (K.out.trans (hy.mono K.out.size))
  replace N := Lib.hid (N.out.below hy N.out.lt)
  clear hy
  have L81 := (N.out.cell 2).trans Q2.out
  go_wp2_with fail
  clear L81
  refine (same_below (C2.out V3)).mono ?_
  rintro e V4 ⟨rfl, hy⟩
  replace K := Lib.hid (K.out.trans (hy.mono K.out.size))
  replace N := Lib.hid (N.out.below hy N.out.lt)
  clear hy
  have L82 := (N.out.cell 3).trans Q3.out
  go_wp2_with fail
  clear L82
  refine (same_below (C3.out V4)).mono ?_
  rintro e V5 ⟨rfl, hy⟩
  replace K := Lib.hid (K.out.trans (hy.mono K.out.size))
  replace N := Lib.hid (N.out.below hy N.out.lt)
  clear hy
  have L83 := (N.out.cell 4).trans Q4.out
  go_wp2_with fail
  clear L83
  refine (same_below (C4.out V5)).mono ?_
  rintro e V6 ⟨rfl, hy⟩
  replace K := Lib.hid (K.out.trans (hy.mono K.out.size))
  replace N := Lib.hid (N.out.below hy N.out.lt)
  clear hy
  have L84 := (N.out.cell 5).trans Q5.out
  go_wp2_with fail
  clear L84
  refine (same_below (C5.out V6)).mono ?_
  rintro e V7 ⟨rfl, hy⟩
  replace K := Lib.hid (K.out.trans (hy.mono K.out.size))
  replace N := Lib.hid (N.out.below hy N.out.lt)
  clear hy
  have L85 := (N.out.cell 6).trans Q6.out
  go_wp2_with fail
  clear L85
  refine (same_below (C6.out V7)).mono ?_
  rintro e V8 ⟨rfl, hy⟩
  replace K := Lib.hid (K.out.trans (hy.mono K.out.size))
  replace N := Lib.hid (N.out.below hy N.out.lt)
  clear hy
  have L86 := (N.out.cell 7).trans Q7.out
  go_wp2_with fail
  clear L86
  refine (same_below (C7.out V8)).mono ?_
  rintro e V9 ⟨rfl, hy⟩
  replace K := Lib.hid (K.out.trans (hy.mono K.out.size))
  replace N := Lib.hid (N.out.below hy N.out.lt)
  clear hy
  have L87 := (N.out.cell 8).trans Q8.out
  go_wp2_with fail
  clear L87
  refine (same_below (C8.out V9)).mono ?_
  rintro e V10 ⟨rfl, hy⟩
  replace K := Lib.hid (K.out.trans (hy.mono K.out.size))
  replace N := Lib.hid (N.out.below hy N.out.lt)
  clear hy
  have L88 := (N.out.cell 9).trans Q9.out
  go_wp2_with fail
  clear L88
  refine (same_below (C9.out V10)).mono ?_
  rintro e V11 ⟨rfl, hy⟩
  replace K := Lib.hid (K.out.trans (hy.mono K.out.size))
  replace N := Lib.hid (N.out.below hy N.out.lt)
  clear hy
  have L89 := (N.out.cell 10).trans Q10.out
  go_wp2_with fail
  clear L89
  refine (same_below (C10.out V11)).mono ?_
  rintro e V12 ⟨rfl, hy⟩
  replace K := Lib.hid (K.out.trans (hy.mono K.out.size))
  replace N := Lib.hid (N.out.below hy N.out.lt)
  clear hy
  have L90 := (N.out.cell 11).trans Q11.out
  go_wp2_with fail
  clear L90
  refine (same_below (C11.out V12)).mono ?_
  rintro e V13 ⟨rfl, hy⟩
  replace K := Lib.hid (K.out.trans (hy.mono K.out.size))
  replace N := Lib.hid (N.out.below hy N.out.lt)
  clear hy
  have L91 : (loadVar 24 ⟨w.heap.size, 13, none⟩).run Try.prog V13 = .ok (.agg SO) V13 := by have h := run_part_load (P := Try.prog) 24 13 SO.toList _ N.out CP1.out Try.underlying24 rfl CI1.out; rwa [Array.toArray_toList] at h
  replace L91 := Lib.hid L91
  go_wp2_with (((with_reducible refine wpList_load_want (op := ⟨some 63, .load 24 (.tmp 62), _, _, _, _⟩) ?wg91 24 (.tmp 62) ?wo91 ⟨w.heap.size, 13, none⟩ ?wx91 (.agg SO) L91.out ?_); (case wg91 => rfl); (case wo91 => rfl); (case wx91 => rfl)))
  clear L91
  refine (CV1.out V13).mono ?_
  rintro e V14 ⟨rfl, hy⟩
  replace K := Lib.hid (K.out.trans (hy.mono K.out.size))
  replace N := Lib.hid (N.out.below hy N.out.lt)
  clear hy
  go_wp2
  go_ret
  exact ⟨rfl, K.out⟩
set_option maxRecDepth 100000 in
set_option maxHeartbeats 4000000 in
theorem rchk_x (c : Cf) (hc : c.Fit) (h0 : wi c.st 1 4 = true) (h1 : pw c.sz 2 1024 = true) (h2 : wi c.dg 1 16 = true) (h3 : pw c.bl 8 65536 = true) (h4 : wi c.hs 1 4 = true) (h5 : wi c.sl 1 64 = true) (h6 : wi c.vs 2 16 = true) (h7 : wi c.qu 1 256 = true) (h8 : wi c.ev 1 64 = true) (h9 : wi c.id 1 1000 = true) (h10 : wi c.li 1 1000 = true) (h11 : wi c.fa 1 10 = true) (hO : vldA c.ov c.O = true) (hX : vldA c.xv c.X = false) (w : World) :
    Calls Try.prog 8 #[.agg c.cs] w fun e w' => e = .returned (.bool false) ∧ Below w.heap.size w w' := by
  have K := Lib.hid (Below.refl w.heap.size w)
  have C0 := Lib.hid (fun W => within_any c.st 1 4 W)
  rw [h0] at C0
  have C1 := Lib.hid (fun W => power_any c.sz 2 1024 (by decide) (by decide) W)
  rw [h1] at C1
  have C2 := Lib.hid (fun W => within_any c.dg 1 16 W)
  rw [h2] at C2
  have C3 := Lib.hid (fun W => power_any c.bl 8 65536 (by decide) (by decide) W)
  rw [h3] at C3
  have C4 := Lib.hid (fun W => within_any c.hs 1 4 W)
  rw [h4] at C4
  have C5 := Lib.hid (fun W => within_any c.sl 1 64 W)
  rw [h5] at C5
  have C6 := Lib.hid (fun W => within_any c.vs 2 16 W)
  rw [h6] at C6
  have C7 := Lib.hid (fun W => within_any c.qu 1 256 W)
  rw [h7] at C7
  have C8 := Lib.hid (fun W => within_any c.ev 1 64 W)
  rw [h8] at C8
  have C9 := Lib.hid (fun W => within_any c.id 1 1000 W)
  rw [h9] at C9
  have C10 := Lib.hid (fun W => within_any c.li 1 1000 W)
  rw [h10] at C10
  have C11 := Lib.hid (fun W => within_any c.fa 1 10 W)
  rw [h11] at C11
  have CV1 := Lib.hid (fun W => ref_adr c.ov c.O hc.lO W)
  have CV2 := Lib.hid (fun W => ref_adr c.xv c.X hc.lX W)
  obtain ⟨b0, b1, b2, b3, b4, b5, b6, b7, b8, b9, b10, b11, b12, b13, b14, b15⟩ := cf_get c hc
  have Q0 := Lib.hid b0
  have Q1 := Lib.hid b1
  have Q2 := Lib.hid b2
  have Q3 := Lib.hid b3
  have Q4 := Lib.hid b4
  have Q5 := Lib.hid b5
  have Q6 := Lib.hid b6
  have Q7 := Lib.hid b7
  have Q8 := Lib.hid b8
  have Q9 := Lib.hid b9
  have Q10 := Lib.hid b10
  have Q11 := Lib.hid b11
  have Q12 := Lib.hid b12
  have Q13 := Lib.hid b13
  have Q14 := Lib.hid b14
  have Q15 := Lib.hid b15
  clear b0 b1 b2 b3 b4 b5 b6 b7 b8 b9 b10 b11 b12 b13 b14 b15
  have CP1 := Lib.hid (cf_own c)
  have CP2 := Lib.hid (cf_own6 c hc)
  have CI1 := Lib.hid (cf_io c hc)
  have CI2 := Lib.hid (cf_ix c hc)
  have IC := Lib.hid (cf_ic c hc)
  unfold adr at CV1 CV2
  generalize vldA c.ov c.O = vO at *
  generalize vldA c.xv c.X = vX at *
  clear h0 h1 h2 h3 h4 h5 h6 h7 h8 h9 h10 h11
  generalize c.cs = cc at *
  generalize cellsA c.ov c.O = SO at *
  generalize cellsA c.xv c.X = SX at *
  generalize c.st = st at *
  generalize c.sz = sz at *
  generalize c.dg = dg at *
  generalize c.bl = bl at *
  generalize c.hs = hs at *
  generalize c.sl = sl at *
  generalize c.vs = vs at *
  generalize c.qu = qu at *
  generalize c.ev = ev at *
  generalize c.id = id at *
  generalize c.li = li at *
  generalize c.fa = fa at *
  generalize c.en = en at *
  generalize c.ov = ov at *
  generalize c.xv = xv at *
  generalize c.sd = sd at *
  clear hc
  subst hO
  subst hX
  go_enter Try.func8, Try.ntmps8
  have hal := (Below.refl w.heap.size w).alloc (Nat.le_refl _) (.cells cc 27)
  replace K := Lib.hid (K.out.trans (hal.mono K.out.size))
  have N := Lib.hid (Blk.new w 27 cc)
  clear hal
  go_upto_region 1 with fail
  dsimp only [List.append]
  have L92 := (N.out.cell 0).trans Q0.out
  go_wp2_with fail
  clear L92
  have hzV1 : Hid ((w.alloc (.cells cc 27)).heap.size = w.heap.size + 1) := by show _ = _; simp only [World.size_alloc]
  generalize (w.alloc (.cells cc 27)) = V1 at *
  refine (same_below (C0.out V1)).mono ?_
  rintro e V2 ⟨rfl, hy⟩
  replace K := Lib.hid (K.out.trans (hy.mono K.out.size))
  replace N := Lib.hid (N.out.below hy N.out.lt)
  clear hy
  have L93 := (N.out.cell 1).trans Q1.out
  go_wp2_with fail
  clear L93
  refine (same_below (C1.out V2)).mono ?_
  rintro e V3 ⟨rfl, hy⟩
  replace K := Lib.hid (K.out.trans (hy.mono K.out.size))
  replace N := Lib.hid (N.out.below hy N.out.lt)
  clear hy
  have L94 := (N.out.cell 2).trans Q2.out
  go_wp2_with fail
  clear L94
  refine (same_below (C2.out V3)).mono ?_
  rintro e V4 ⟨rfl, hy⟩
  replace K := Lib.hid (K.out.trans (hy.mono K.out.size))
  replace N := Lib.hid (N.out.below hy N.out.lt)
  clear hy
  have L95 := (N.out.cell 3).trans Q3.out
  go_wp2_with fail
  clear L95
  refine (same_below (C3.out V4)).mono ?_
  rintro e V5 ⟨rfl, hy⟩
  replace K := Lib.hid (K.out.trans (hy.mono K.out.size))
  replace N := Lib.hid (N.out.below hy N.out.lt)
  clear hy
  have L96 := (N.out.cell 4).trans Q4.out
  go_wp2_with fail
  clear L96
  refine (same_below (C4.out V5)).mono ?_
  rintro e V6 ⟨rfl, hy⟩
  replace K := Lib.hid (K.out.trans (hy.mono K.out.size))
  replace N := Lib.hid (N.out.below hy N.out.lt)
  clear hy
  have L97 := (N.out.cell 5).trans Q5.out
  go_wp2_with fail
  clear L97
  refine (same_below (C5.out V6)).mono ?_
  rintro e V7 ⟨rfl, hy⟩
  replace K := Lib.hid (K.out.trans (hy.mono K.out.size))
  replace N := Lib.hid (N.out.below hy N.out.lt)
  clear hy
  have L98 := (N.out.cell 6).trans Q6.out
  go_wp2_with fail
  clear L98
  refine (same_below (C6.out V7)).mono ?_
  rintro e V8 ⟨rfl, hy⟩
  replace K := Lib.hid (K.out.trans (hy.mono K.out.size))
  replace N := Lib.hid (N.out.below hy N.out.lt)
  clear hy
  have L99 := (N.out.cell 7).trans Q7.out
  go_wp2_with fail
  clear L99
  refine (same_below (C7.out V8)).mono ?_
  rintro e V9 ⟨rfl, hy⟩
  replace K := Lib.hid (K.out.trans (hy.mono K.out.size))
  replace N := Lib.hid (N.out.below hy N.out.lt)
  clear hy
  have L100 := (N.out.cell 8).trans Q8.out
  go_wp2_with fail
  clear L100
  refine (same_below (C8.out V9)).mono ?_
  rintro e V10 ⟨rfl, hy⟩
  replace K := Lib.hid (K.out.trans (hy.mono K.out.size))
  replace N := Lib.hid (N.out.below hy N.out.lt)
  clear hy
  have L101 := (N.out.cell 9).trans Q9.out
  go_wp2_with fail
  clear L101
  refine (same_below (C9.out V10)).mono ?_
  rintro e V11 ⟨rfl, hy⟩
  replace K := Lib.hid (K.out.trans (hy.mono K.out.size))
  replace N := Lib.hid (N.out.below hy N.out.lt)
  clear hy
  have L102 := (N.out.cell 10).trans Q10.out
  go_wp2_with fail
  clear L102
  refine (same_below (C10.out V11)).mono ?_
  rintro e V12 ⟨rfl, hy⟩
  replace K := Lib.hid (K.out.trans (hy.mono K.out.size))
  replace N := Lib.hid (N.out.below hy N.out.lt)
  clear hy
  have L103 := (N.out.cell 11).trans Q11.out
  go_wp2_with fail
  clear L103
  refine (same_below (C11.out V12)).mono ?_
  rintro e V13 ⟨rfl, hy⟩
  replace K := Lib.hid (K.out.trans (hy.mono K.out.size))
  replace N := Lib.hid (N.out.below hy N.out.lt)
  clear hy
  have L104 : (loadVar 24 ⟨w.heap.size, 13, none⟩).run Try.prog V13 = .ok (.agg SO) V13 := by have h := run_part_load (P := Try.prog) 24 13 SO.toList _ N.out CP1.out Try.underlying24 rfl CI1.out; rwa [Array.toArray_toList] at h
  replace L104 := Lib.hid L104
  go_wp2_with (((with_reducible refine wpList_load_want (op := ⟨some 63, .load 24 (.tmp 62), _, _, _, _⟩) ?wg104 24 (.tmp 62) ?wo104 ⟨w.heap.size, 13, none⟩ ?wx104 (.agg SO) L104.out ?_); (case wg104 => rfl); (case wo104 => rfl); (case wx104 => rfl)))
  clear L104
  refine (CV1.out V13).mono ?_
  rintro e V14 ⟨rfl, hy⟩
  replace K := Lib.hid (K.out.trans (hy.mono K.out.size))
  replace N := Lib.hid (N.out.below hy N.out.lt)
  clear hy
  have L105 : (loadVar 24 ⟨w.heap.size, 30, none⟩).run Try.prog V14 = .ok (.agg SX) V14 := by have h := run_part_load (P := Try.prog) 24 30 SX.toList _ N.out CP2.out Try.underlying24 rfl CI2.out; rwa [Array.toArray_toList] at h
  replace L105 := Lib.hid L105
  go_wp2_with (((with_reducible refine wpList_load_want (op := ⟨some 68, .load 24 (.tmp 67), _, _, _, _⟩) ?wg105 24 (.tmp 67) ?wo105 ⟨w.heap.size, 30, none⟩ ?wx105 (.agg SX) L105.out ?_); (case wg105 => rfl); (case wo105 => rfl); (case wx105 => rfl)))
  clear L105
  refine (CV2.out V14).mono ?_
  rintro e V15 ⟨rfl, hy⟩
  replace K := Lib.hid (K.out.trans (hy.mono K.out.size))
  replace N := Lib.hid (N.out.below hy N.out.lt)
  clear hy
  go_wp2
  go_ret
  exact ⟨rfl, K.out⟩
set_option maxRecDepth 100000 in
set_option maxHeartbeats 4000000 in
theorem rchk_n (c : Cf) (hc : c.Fit) (h0 : wi c.st 1 4 = true) (h1 : pw c.sz 2 1024 = true) (h2 : wi c.dg 1 16 = true) (h3 : pw c.bl 8 65536 = true) (h4 : wi c.hs 1 4 = true) (h5 : wi c.sl 1 64 = true) (h6 : wi c.vs 2 16 = true) (h7 : wi c.qu 1 256 = true) (h8 : wi c.ev 1 64 = true) (h9 : wi c.id 1 1000 = true) (h10 : wi c.li 1 1000 = true) (h11 : wi c.fa 1 10 = true) (hO : vldA c.ov c.O = true) (hX : vldA c.xv c.X = true) (hE : c.en = false) (w : World) :
    Calls Try.prog 8 #[.agg c.cs] w fun e w' => e = .returned (.bool true) ∧ Below w.heap.size w w' := by
  have K := Lib.hid (Below.refl w.heap.size w)
  have C0 := Lib.hid (fun W => within_any c.st 1 4 W)
  rw [h0] at C0
  have C1 := Lib.hid (fun W => power_any c.sz 2 1024 (by decide) (by decide) W)
  rw [h1] at C1
  have C2 := Lib.hid (fun W => within_any c.dg 1 16 W)
  rw [h2] at C2
  have C3 := Lib.hid (fun W => power_any c.bl 8 65536 (by decide) (by decide) W)
  rw [h3] at C3
  have C4 := Lib.hid (fun W => within_any c.hs 1 4 W)
  rw [h4] at C4
  have C5 := Lib.hid (fun W => within_any c.sl 1 64 W)
  rw [h5] at C5
  have C6 := Lib.hid (fun W => within_any c.vs 2 16 W)
  rw [h6] at C6
  have C7 := Lib.hid (fun W => within_any c.qu 1 256 W)
  rw [h7] at C7
  have C8 := Lib.hid (fun W => within_any c.ev 1 64 W)
  rw [h8] at C8
  have C9 := Lib.hid (fun W => within_any c.id 1 1000 W)
  rw [h9] at C9
  have C10 := Lib.hid (fun W => within_any c.li 1 1000 W)
  rw [h10] at C10
  have C11 := Lib.hid (fun W => within_any c.fa 1 10 W)
  rw [h11] at C11
  have CV1 := Lib.hid (fun W => ref_adr c.ov c.O hc.lO W)
  have CV2 := Lib.hid (fun W => ref_adr c.xv c.X hc.lX W)
  obtain ⟨b0, b1, b2, b3, b4, b5, b6, b7, b8, b9, b10, b11, b12, b13, b14, b15⟩ := cf_get c hc
  have Q0 := Lib.hid b0
  have Q1 := Lib.hid b1
  have Q2 := Lib.hid b2
  have Q3 := Lib.hid b3
  have Q4 := Lib.hid b4
  have Q5 := Lib.hid b5
  have Q6 := Lib.hid b6
  have Q7 := Lib.hid b7
  have Q8 := Lib.hid b8
  have Q9 := Lib.hid b9
  have Q10 := Lib.hid b10
  have Q11 := Lib.hid b11
  have Q12 := Lib.hid b12
  have Q13 := Lib.hid b13
  have Q14 := Lib.hid b14
  have Q15 := Lib.hid b15
  clear b0 b1 b2 b3 b4 b5 b6 b7 b8 b9 b10 b11 b12 b13 b14 b15
  have CP1 := Lib.hid (cf_own c)
  have CP2 := Lib.hid (cf_own6 c hc)
  have CI1 := Lib.hid (cf_io c hc)
  have CI2 := Lib.hid (cf_ix c hc)
  have IC := Lib.hid (cf_ic c hc)
  unfold adr at CV1 CV2
  generalize vldA c.ov c.O = vO at *
  generalize vldA c.xv c.X = vX at *
  clear h0 h1 h2 h3 h4 h5 h6 h7 h8 h9 h10 h11
  generalize c.cs = cc at *
  generalize cellsA c.ov c.O = SO at *
  generalize cellsA c.xv c.X = SX at *
  generalize c.st = st at *
  generalize c.sz = sz at *
  generalize c.dg = dg at *
  generalize c.bl = bl at *
  generalize c.hs = hs at *
  generalize c.sl = sl at *
  generalize c.vs = vs at *
  generalize c.qu = qu at *
  generalize c.ev = ev at *
  generalize c.id = id at *
  generalize c.li = li at *
  generalize c.fa = fa at *
  generalize c.en = en at *
  generalize c.ov = ov at *
  generalize c.xv = xv at *
  generalize c.sd = sd at *
  clear hc
  subst hO
  subst hX
  subst hE
  go_enter Try.func8, Try.ntmps8
  have hal := (Below.refl w.heap.size w).alloc (Nat.le_refl _) (.cells cc 27)
  replace K := Lib.hid (K.out.trans (hal.mono K.out.size))
  have N := Lib.hid (Blk.new w 27 cc)
  clear hal
  go_upto_region 1 with fail
  dsimp only [List.append]
  have L106 := (N.out.cell 0).trans Q0.out
  go_wp2_with fail
  clear L106
  have hzV1 : Hid ((w.alloc (.cells cc 27)).heap.size = w.heap.size + 1) := by show _ = _; simp only [World.size_alloc]
  generalize (w.alloc (.cells cc 27)) = V1 at *
  refine (same_below (C0.out V1)).mono ?_
  rintro e V2 ⟨rfl, hy⟩
  replace K := Lib.hid (K.out.trans (hy.mono K.out.size))
  replace N := Lib.hid (N.out.below hy N.out.lt)
  clear hy
  have L107 := (N.out.cell 1).trans Q1.out
  go_wp2_with fail
  clear L107
  refine (same_below (C1.out V2)).mono ?_
  rintro e V3 ⟨rfl, hy⟩
  replace K := Lib.hid (K.out.trans (hy.mono K.out.size))
  replace N := Lib.hid (N.out.below hy N.out.lt)
  clear hy
  have L108 := (N.out.cell 2).trans Q2.out
  go_wp2_with fail
  clear L108
  refine (same_below (C2.out V3)).mono ?_
  rintro e V4 ⟨rfl, hy⟩
  replace K := Lib.hid (K.out.trans (hy.mono K.out.size))
  replace N := Lib.hid (N.out.below hy N.out.lt)
  clear hy
  have L109 := (N.out.cell 3).trans Q3.out
  go_wp2_with fail
  clear L109
  refine (same_below (C3.out V4)).mono ?_
  rintro e V5 ⟨rfl, hy⟩
  replace K := Lib.hid (K.out.trans (hy.mono K.out.size))
  replace N := Lib.hid (N.out.below hy N.out.lt)
  clear hy
  have L110 := (N.out.cell 4).trans Q4.out
  go_wp2_with fail
  clear L110
  refine (same_below (C4.out V5)).mono ?_
  rintro e V6 ⟨rfl, hy⟩
  replace K := Lib.hid (K.out.trans (hy.mono K.out.size))
  replace N := Lib.hid (N.out.below hy N.out.lt)
  clear hy
  have L111 := (N.out.cell 5).trans Q5.out
  go_wp2_with fail
  clear L111
  refine (same_below (C5.out V6)).mono ?_
  rintro e V7 ⟨rfl, hy⟩
  replace K := Lib.hid (K.out.trans (hy.mono K.out.size))
  replace N := Lib.hid (N.out.below hy N.out.lt)
  clear hy
  have L112 := (N.out.cell 6).trans Q6.out
  go_wp2_with fail
  clear L112
  refine (same_below (C6.out V7)).mono ?_
  rintro e V8 ⟨rfl, hy⟩
  replace K := Lib.hid (K.out.trans (hy.mono K.out.size))
  replace N := Lib.hid (N.out.below hy N.out.lt)
  clear hy
  have L113 := (N.out.cell 7).trans Q7.out
  go_wp2_with fail
  clear L113
  refine (same_below (C7.out V8)).mono ?_
  rintro e V9 ⟨rfl, hy⟩
  replace K := Lib.hid (K.out.trans (hy.mono K.out.size))
  replace N := Lib.hid (N.out.below hy N.out.lt)
  clear hy
  have L114 := (N.out.cell 8).trans Q8.out
  go_wp2_with fail
  clear L114
  refine (same_below (C8.out V9)).mono ?_
  rintro e V10 ⟨rfl, hy⟩
  replace K := Lib.hid (K.out.trans (hy.mono K.out.size))
  replace N := Lib.hid (N.out.below hy N.out.lt)
  clear hy
  have L115 := (N.out.cell 9).trans Q9.out
  go_wp2_with fail
  clear L115
  refine (same_below (C9.out V10)).mono ?_
  rintro e V11 ⟨rfl, hy⟩
  replace K := Lib.hid (K.out.trans (hy.mono K.out.size))
  replace N := Lib.hid (N.out.below hy N.out.lt)
  clear hy
  have L116 := (N.out.cell 10).trans Q10.out
  go_wp2_with fail
  clear L116
  refine (same_below (C10.out V11)).mono ?_
  rintro e V12 ⟨rfl, hy⟩
  replace K := Lib.hid (K.out.trans (hy.mono K.out.size))
  replace N := Lib.hid (N.out.below hy N.out.lt)
  clear hy
  have L117 := (N.out.cell 11).trans Q11.out
  go_wp2_with fail
  clear L117
  refine (same_below (C11.out V12)).mono ?_
  rintro e V13 ⟨rfl, hy⟩
  replace K := Lib.hid (K.out.trans (hy.mono K.out.size))
  replace N := Lib.hid (N.out.below hy N.out.lt)
  clear hy
  have L118 : (loadVar 24 ⟨w.heap.size, 13, none⟩).run Try.prog V13 = .ok (.agg SO) V13 := by have h := run_part_load (P := Try.prog) 24 13 SO.toList _ N.out CP1.out Try.underlying24 rfl CI1.out; rwa [Array.toArray_toList] at h
  replace L118 := Lib.hid L118
  go_wp2_with (((with_reducible refine wpList_load_want (op := ⟨some 63, .load 24 (.tmp 62), _, _, _, _⟩) ?wg118 24 (.tmp 62) ?wo118 ⟨w.heap.size, 13, none⟩ ?wx118 (.agg SO) L118.out ?_); (case wg118 => rfl); (case wo118 => rfl); (case wx118 => rfl)))
  clear L118
  refine (CV1.out V13).mono ?_
  rintro e V14 ⟨rfl, hy⟩
  replace K := Lib.hid (K.out.trans (hy.mono K.out.size))
  replace N := Lib.hid (N.out.below hy N.out.lt)
  clear hy
  have L119 : (loadVar 24 ⟨w.heap.size, 30, none⟩).run Try.prog V14 = .ok (.agg SX) V14 := by have h := run_part_load (P := Try.prog) 24 30 SX.toList _ N.out CP2.out Try.underlying24 rfl CI2.out; rwa [Array.toArray_toList] at h
  replace L119 := Lib.hid L119
  go_wp2_with (((with_reducible refine wpList_load_want (op := ⟨some 68, .load 24 (.tmp 67), _, _, _, _⟩) ?wg119 24 (.tmp 67) ?wo119 ⟨w.heap.size, 30, none⟩ ?wx119 (.agg SX) L119.out ?_); (case wg119 => rfl); (case wo119 => rfl); (case wx119 => rfl)))
  clear L119
  refine (CV2.out V14).mono ?_
  rintro e V15 ⟨rfl, hy⟩
  replace K := Lib.hid (K.out.trans (hy.mono K.out.size))
  replace N := Lib.hid (N.out.below hy N.out.lt)
  clear hy
  have L120 := (N.out.cell 12).trans Q12.out
  go_wp2
  go_ret
  exact ⟨rfl, K.out⟩
set_option maxRecDepth 100000 in
set_option maxHeartbeats 4000000 in
theorem rchk_v (c : Cf) (hc : c.Fit) (h0 : wi c.st 1 4 = true) (h1 : pw c.sz 2 1024 = true) (h2 : wi c.dg 1 16 = true) (h3 : pw c.bl 8 65536 = true) (h4 : wi c.hs 1 4 = true) (h5 : wi c.sl 1 64 = true) (h6 : wi c.vs 2 16 = true) (h7 : wi c.qu 1 256 = true) (h8 : wi c.ev 1 64 = true) (h9 : wi c.id 1 1000 = true) (h10 : wi c.li 1 1000 = true) (h11 : wi c.fa 1 10 = true) (hO : vldA c.ov c.O = true) (hX : vldA c.xv c.X = true) (hE : c.en = true) (hV : c.ov = true) (w : World) :
    Calls Try.prog 8 #[.agg c.cs] w fun e w' => e = .returned (.bool false) ∧ Below w.heap.size w w' := by
  have K := Lib.hid (Below.refl w.heap.size w)
  have C0 := Lib.hid (fun W => within_any c.st 1 4 W)
  rw [h0] at C0
  have C1 := Lib.hid (fun W => power_any c.sz 2 1024 (by decide) (by decide) W)
  rw [h1] at C1
  have C2 := Lib.hid (fun W => within_any c.dg 1 16 W)
  rw [h2] at C2
  have C3 := Lib.hid (fun W => power_any c.bl 8 65536 (by decide) (by decide) W)
  rw [h3] at C3
  have C4 := Lib.hid (fun W => within_any c.hs 1 4 W)
  rw [h4] at C4
  have C5 := Lib.hid (fun W => within_any c.sl 1 64 W)
  rw [h5] at C5
  have C6 := Lib.hid (fun W => within_any c.vs 2 16 W)
  rw [h6] at C6
  have C7 := Lib.hid (fun W => within_any c.qu 1 256 W)
  rw [h7] at C7
  have C8 := Lib.hid (fun W => within_any c.ev 1 64 W)
  rw [h8] at C8
  have C9 := Lib.hid (fun W => within_any c.id 1 1000 W)
  rw [h9] at C9
  have C10 := Lib.hid (fun W => within_any c.li 1 1000 W)
  rw [h10] at C10
  have C11 := Lib.hid (fun W => within_any c.fa 1 10 W)
  rw [h11] at C11
  have CV1 := Lib.hid (fun W => ref_adr c.ov c.O hc.lO W)
  have CV2 := Lib.hid (fun W => ref_adr c.xv c.X hc.lX W)
  obtain ⟨b0, b1, b2, b3, b4, b5, b6, b7, b8, b9, b10, b11, b12, b13, b14, b15⟩ := cf_get c hc
  have Q0 := Lib.hid b0
  have Q1 := Lib.hid b1
  have Q2 := Lib.hid b2
  have Q3 := Lib.hid b3
  have Q4 := Lib.hid b4
  have Q5 := Lib.hid b5
  have Q6 := Lib.hid b6
  have Q7 := Lib.hid b7
  have Q8 := Lib.hid b8
  have Q9 := Lib.hid b9
  have Q10 := Lib.hid b10
  have Q11 := Lib.hid b11
  have Q12 := Lib.hid b12
  have Q13 := Lib.hid b13
  have Q14 := Lib.hid b14
  have Q15 := Lib.hid b15
  clear b0 b1 b2 b3 b4 b5 b6 b7 b8 b9 b10 b11 b12 b13 b14 b15
  have CP1 := Lib.hid (cf_own c)
  have CP2 := Lib.hid (cf_own6 c hc)
  have CI1 := Lib.hid (cf_io c hc)
  have CI2 := Lib.hid (cf_ix c hc)
  have IC := Lib.hid (cf_ic c hc)
  unfold adr at CV1 CV2
  generalize vldA c.ov c.O = vO at *
  generalize vldA c.xv c.X = vX at *
  clear h0 h1 h2 h3 h4 h5 h6 h7 h8 h9 h10 h11
  generalize c.cs = cc at *
  generalize cellsA c.ov c.O = SO at *
  generalize cellsA c.xv c.X = SX at *
  generalize c.st = st at *
  generalize c.sz = sz at *
  generalize c.dg = dg at *
  generalize c.bl = bl at *
  generalize c.hs = hs at *
  generalize c.sl = sl at *
  generalize c.vs = vs at *
  generalize c.qu = qu at *
  generalize c.ev = ev at *
  generalize c.id = id at *
  generalize c.li = li at *
  generalize c.fa = fa at *
  generalize c.en = en at *
  generalize c.ov = ov at *
  generalize c.xv = xv at *
  generalize c.sd = sd at *
  clear hc
  subst hO
  subst hX
  subst hE
  subst hV
  go_enter Try.func8, Try.ntmps8
  have hal := (Below.refl w.heap.size w).alloc (Nat.le_refl _) (.cells cc 27)
  replace K := Lib.hid (K.out.trans (hal.mono K.out.size))
  have N := Lib.hid (Blk.new w 27 cc)
  clear hal
  go_upto_region 1 with fail
  dsimp only [List.append]
  have L121 := (N.out.cell 0).trans Q0.out
  go_wp2_with fail
  clear L121
  have hzV1 : Hid ((w.alloc (.cells cc 27)).heap.size = w.heap.size + 1) := by show _ = _; simp only [World.size_alloc]
  generalize (w.alloc (.cells cc 27)) = V1 at *
  refine (same_below (C0.out V1)).mono ?_
  rintro e V2 ⟨rfl, hy⟩
  replace K := Lib.hid (K.out.trans (hy.mono K.out.size))
  replace N := Lib.hid (N.out.below hy N.out.lt)
  clear hy
  have L122 := (N.out.cell 1).trans Q1.out
  go_wp2_with fail
  clear L122
  refine (same_below (C1.out V2)).mono ?_
  rintro e V3 ⟨rfl, hy⟩
  replace K := Lib.hid (K.out.trans (hy.mono K.out.size))
  replace N := Lib.hid (N.out.below hy N.out.lt)
  clear hy
  have L123 := (N.out.cell 2).trans Q2.out
  go_wp2_with fail
  clear L123
  refine (same_below (C2.out V3)).mono ?_
  rintro e V4 ⟨rfl, hy⟩
  replace K := Lib.hid (K.out.trans (hy.mono K.out.size))
  replace N := Lib.hid (N.out.below hy N.out.lt)
  clear hy
  have L124 := (N.out.cell 3).trans Q3.out
  go_wp2_with fail
  clear L124
  refine (same_below (C3.out V4)).mono ?_
  rintro e V5 ⟨rfl, hy⟩
  replace K := Lib.hid (K.out.trans (hy.mono K.out.size))
  replace N := Lib.hid (N.out.below hy N.out.lt)
  clear hy
  have L125 := (N.out.cell 4).trans Q4.out
  go_wp2_with fail
  clear L125
  refine (same_below (C4.out V5)).mono ?_
  rintro e V6 ⟨rfl, hy⟩
  replace K := Lib.hid (K.out.trans (hy.mono K.out.size))
  replace N := Lib.hid (N.out.below hy N.out.lt)
  clear hy
  have L126 := (N.out.cell 5).trans Q5.out
  go_wp2_with fail
  clear L126
  refine (same_below (C5.out V6)).mono ?_
  rintro e V7 ⟨rfl, hy⟩
  replace K := Lib.hid (K.out.trans (hy.mono K.out.size))
  replace N := Lib.hid (N.out.below hy N.out.lt)
  clear hy
  have L127 := (N.out.cell 6).trans Q6.out
  go_wp2_with fail
  clear L127
  refine (same_below (C6.out V7)).mono ?_
  rintro e V8 ⟨rfl, hy⟩
  replace K := Lib.hid (K.out.trans (hy.mono K.out.size))
  replace N := Lib.hid (N.out.below hy N.out.lt)
  clear hy
  have L128 := (N.out.cell 7).trans Q7.out
  go_wp2_with fail
  clear L128
  refine (same_below (C7.out V8)).mono ?_
  rintro e V9 ⟨rfl, hy⟩
  replace K := Lib.hid (K.out.trans (hy.mono K.out.size))
  replace N := Lib.hid (N.out.below hy N.out.lt)
  clear hy
  have L129 := (N.out.cell 8).trans Q8.out
  go_wp2_with fail
  clear L129
  refine (same_below (C8.out V9)).mono ?_
  rintro e V10 ⟨rfl, hy⟩
  replace K := Lib.hid (K.out.trans (hy.mono K.out.size))
  replace N := Lib.hid (N.out.below hy N.out.lt)
  clear hy
  have L130 := (N.out.cell 9).trans Q9.out
  go_wp2_with fail
  clear L130
  refine (same_below (C9.out V10)).mono ?_
  rintro e V11 ⟨rfl, hy⟩
  replace K := Lib.hid (K.out.trans (hy.mono K.out.size))
  replace N := Lib.hid (N.out.below hy N.out.lt)
  clear hy
  have L131 := (N.out.cell 10).trans Q10.out
  go_wp2_with fail
  clear L131
  refine (same_below (C10.out V11)).mono ?_
  rintro e V12 ⟨rfl, hy⟩
  replace K := Lib.hid (K.out.trans (hy.mono K.out.size))
  replace N := Lib.hid (N.out.below hy N.out.lt)
  clear hy
  have L132 := (N.out.cell 11).trans Q11.out
  go_wp2_with fail
  clear L132
  refine (same_below (C11.out V12)).mono ?_
  rintro e V13 ⟨rfl, hy⟩
  replace K := Lib.hid (K.out.trans (hy.mono K.out.size))
  replace N := Lib.hid (N.out.below hy N.out.lt)
  clear hy
  have L133 : (loadVar 24 ⟨w.heap.size, 13, none⟩).run Try.prog V13 = .ok (.agg SO) V13 := by have h := run_part_load (P := Try.prog) 24 13 SO.toList _ N.out CP1.out Try.underlying24 rfl CI1.out; rwa [Array.toArray_toList] at h
  replace L133 := Lib.hid L133
  go_wp2_with (((with_reducible refine wpList_load_want (op := ⟨some 63, .load 24 (.tmp 62), _, _, _, _⟩) ?wg133 24 (.tmp 62) ?wo133 ⟨w.heap.size, 13, none⟩ ?wx133 (.agg SO) L133.out ?_); (case wg133 => rfl); (case wo133 => rfl); (case wx133 => rfl)))
  clear L133
  refine (CV1.out V13).mono ?_
  rintro e V14 ⟨rfl, hy⟩
  replace K := Lib.hid (K.out.trans (hy.mono K.out.size))
  replace N := Lib.hid (N.out.below hy N.out.lt)
  clear hy
  have L134 : (loadVar 24 ⟨w.heap.size, 30, none⟩).run Try.prog V14 = .ok (.agg SX) V14 := by have h := run_part_load (P := Try.prog) 24 30 SX.toList _ N.out CP2.out Try.underlying24 rfl CI2.out; rwa [Array.toArray_toList] at h
  replace L134 := Lib.hid L134
  go_wp2_with (((with_reducible refine wpList_load_want (op := ⟨some 68, .load 24 (.tmp 67), _, _, _, _⟩) ?wg134 24 (.tmp 67) ?wo134 ⟨w.heap.size, 30, none⟩ ?wx134 (.agg SX) L134.out ?_); (case wg134 => rfl); (case wo134 => rfl); (case wx134 => rfl)))
  clear L134
  refine (CV2.out V14).mono ?_
  rintro e V15 ⟨rfl, hy⟩
  replace K := Lib.hid (K.out.trans (hy.mono K.out.size))
  replace N := Lib.hid (N.out.below hy N.out.lt)
  clear hy
  have L135 := (N.out.cell 12).trans Q12.out
  have L136 := (N.out.cell 13).trans Q13.out
  go_wp2
  go_ret
  exact ⟨rfl, K.out⟩
set_option maxRecDepth 100000 in
set_option maxHeartbeats 4000000 in
theorem rchk_y (c : Cf) (hc : c.Fit) (h0 : wi c.st 1 4 = true) (h1 : pw c.sz 2 1024 = true) (h2 : wi c.dg 1 16 = true) (h3 : pw c.bl 8 65536 = true) (h4 : wi c.hs 1 4 = true) (h5 : wi c.sl 1 64 = true) (h6 : wi c.vs 2 16 = true) (h7 : wi c.qu 1 256 = true) (h8 : wi c.ev 1 64 = true) (h9 : wi c.id 1 1000 = true) (h10 : wi c.li 1 1000 = true) (h11 : wi c.fa 1 10 = true) (hO : vldA c.ov c.O = true) (hX : vldA c.xv c.X = true) (hE : c.en = true) (hV : c.ov = false) (w : World) :
    Calls Try.prog 8 #[.agg c.cs] w fun e w' => e = .returned (.bool c.xv) ∧ Below w.heap.size w w' := by
  have K := Lib.hid (Below.refl w.heap.size w)
  have C0 := Lib.hid (fun W => within_any c.st 1 4 W)
  rw [h0] at C0
  have C1 := Lib.hid (fun W => power_any c.sz 2 1024 (by decide) (by decide) W)
  rw [h1] at C1
  have C2 := Lib.hid (fun W => within_any c.dg 1 16 W)
  rw [h2] at C2
  have C3 := Lib.hid (fun W => power_any c.bl 8 65536 (by decide) (by decide) W)
  rw [h3] at C3
  have C4 := Lib.hid (fun W => within_any c.hs 1 4 W)
  rw [h4] at C4
  have C5 := Lib.hid (fun W => within_any c.sl 1 64 W)
  rw [h5] at C5
  have C6 := Lib.hid (fun W => within_any c.vs 2 16 W)
  rw [h6] at C6
  have C7 := Lib.hid (fun W => within_any c.qu 1 256 W)
  rw [h7] at C7
  have C8 := Lib.hid (fun W => within_any c.ev 1 64 W)
  rw [h8] at C8
  have C9 := Lib.hid (fun W => within_any c.id 1 1000 W)
  rw [h9] at C9
  have C10 := Lib.hid (fun W => within_any c.li 1 1000 W)
  rw [h10] at C10
  have C11 := Lib.hid (fun W => within_any c.fa 1 10 W)
  rw [h11] at C11
  have CV1 := Lib.hid (fun W => ref_adr c.ov c.O hc.lO W)
  have CV2 := Lib.hid (fun W => ref_adr c.xv c.X hc.lX W)
  obtain ⟨b0, b1, b2, b3, b4, b5, b6, b7, b8, b9, b10, b11, b12, b13, b14, b15⟩ := cf_get c hc
  have Q0 := Lib.hid b0
  have Q1 := Lib.hid b1
  have Q2 := Lib.hid b2
  have Q3 := Lib.hid b3
  have Q4 := Lib.hid b4
  have Q5 := Lib.hid b5
  have Q6 := Lib.hid b6
  have Q7 := Lib.hid b7
  have Q8 := Lib.hid b8
  have Q9 := Lib.hid b9
  have Q10 := Lib.hid b10
  have Q11 := Lib.hid b11
  have Q12 := Lib.hid b12
  have Q13 := Lib.hid b13
  have Q14 := Lib.hid b14
  have Q15 := Lib.hid b15
  clear b0 b1 b2 b3 b4 b5 b6 b7 b8 b9 b10 b11 b12 b13 b14 b15
  have CP1 := Lib.hid (cf_own c)
  have CP2 := Lib.hid (cf_own6 c hc)
  have CI1 := Lib.hid (cf_io c hc)
  have CI2 := Lib.hid (cf_ix c hc)
  have IC := Lib.hid (cf_ic c hc)
  unfold adr at CV1 CV2
  generalize vldA c.ov c.O = vO at *
  generalize vldA c.xv c.X = vX at *
  clear h0 h1 h2 h3 h4 h5 h6 h7 h8 h9 h10 h11
  generalize c.cs = cc at *
  generalize cellsA c.ov c.O = SO at *
  generalize cellsA c.xv c.X = SX at *
  generalize c.st = st at *
  generalize c.sz = sz at *
  generalize c.dg = dg at *
  generalize c.bl = bl at *
  generalize c.hs = hs at *
  generalize c.sl = sl at *
  generalize c.vs = vs at *
  generalize c.qu = qu at *
  generalize c.ev = ev at *
  generalize c.id = id at *
  generalize c.li = li at *
  generalize c.fa = fa at *
  generalize c.en = en at *
  generalize c.ov = ov at *
  generalize c.xv = xv at *
  generalize c.sd = sd at *
  clear hc
  subst hO
  subst hX
  subst hE
  subst hV
  go_enter Try.func8, Try.ntmps8
  have hal := (Below.refl w.heap.size w).alloc (Nat.le_refl _) (.cells cc 27)
  replace K := Lib.hid (K.out.trans (hal.mono K.out.size))
  have N := Lib.hid (Blk.new w 27 cc)
  clear hal
  go_upto_region 1 with fail
  dsimp only [List.append]
  have L137 := (N.out.cell 0).trans Q0.out
  go_wp2_with fail
  clear L137
  have hzV1 : Hid ((w.alloc (.cells cc 27)).heap.size = w.heap.size + 1) := by show _ = _; simp only [World.size_alloc]
  generalize (w.alloc (.cells cc 27)) = V1 at *
  refine (same_below (C0.out V1)).mono ?_
  rintro e V2 ⟨rfl, hy⟩
  replace K := Lib.hid (K.out.trans (hy.mono K.out.size))
  replace N := Lib.hid (N.out.below hy N.out.lt)
  clear hy
  have L138 := (N.out.cell 1).trans Q1.out
  go_wp2_with fail
  clear L138
  refine (same_below (C1.out V2)).mono ?_
  rintro e V3 ⟨rfl, hy⟩
  replace K := Lib.hid (K.out.trans (hy.mono K.out.size))
  replace N := Lib.hid (N.out.below hy N.out.lt)
  clear hy
  have L139 := (N.out.cell 2).trans Q2.out
  go_wp2_with fail
  clear L139
  refine (same_below (C2.out V3)).mono ?_
  rintro e V4 ⟨rfl, hy⟩
  replace K := Lib.hid (K.out.trans (hy.mono K.out.size))
  replace N := Lib.hid (N.out.below hy N.out.lt)
  clear hy
  have L140 := (N.out.cell 3).trans Q3.out
  go_wp2_with fail
  clear L140
  refine (same_below (C3.out V4)).mono ?_
  rintro e V5 ⟨rfl, hy⟩
  replace K := Lib.hid (K.out.trans (hy.mono K.out.size))
  replace N := Lib.hid (N.out.below hy N.out.lt)
  clear hy
  have L141 := (N.out.cell 4).trans Q4.out
  go_wp2_with fail
  clear L141
  refine (same_below (C4.out V5)).mono ?_
  rintro e V6 ⟨rfl, hy⟩
  replace K := Lib.hid (K.out.trans (hy.mono K.out.size))
  replace N := Lib.hid (N.out.below hy N.out.lt)
  clear hy
  have L142 := (N.out.cell 5).trans Q5.out
  go_wp2_with fail
  clear L142
  refine (same_below (C5.out V6)).mono ?_
  rintro e V7 ⟨rfl, hy⟩
  replace K := Lib.hid (K.out.trans (hy.mono K.out.size))
  replace N := Lib.hid (N.out.below hy N.out.lt)
  clear hy
  have L143 := (N.out.cell 6).trans Q6.out
  go_wp2_with fail
  clear L143
  refine (same_below (C6.out V7)).mono ?_
  rintro e V8 ⟨rfl, hy⟩
  replace K := Lib.hid (K.out.trans (hy.mono K.out.size))
  replace N := Lib.hid (N.out.below hy N.out.lt)
  clear hy
  have L144 := (N.out.cell 7).trans Q7.out
  go_wp2_with fail
  clear L144
  refine (same_below (C7.out V8)).mono ?_
  rintro e V9 ⟨rfl, hy⟩
  replace K := Lib.hid (K.out.trans (hy.mono K.out.size))
  replace N := Lib.hid (N.out.below hy N.out.lt)
  clear hy
  have L145 := (N.out.cell 8).trans Q8.out
  go_wp2_with fail
  clear L145
  refine (same_below (C8.out V9)).mono ?_
  rintro e V10 ⟨rfl, hy⟩
  replace K := Lib.hid (K.out.trans (hy.mono K.out.size))
  replace N := Lib.hid (N.out.below hy N.out.lt)
  clear hy
  have L146 := (N.out.cell 9).trans Q9.out
  go_wp2_with fail
  clear L146
  refine (same_below (C9.out V10)).mono ?_
  rintro e V11 ⟨rfl, hy⟩
  replace K := Lib.hid (K.out.trans (hy.mono K.out.size))
  replace N := Lib.hid (N.out.below hy N.out.lt)
  clear hy
  have L147 := (N.out.cell 10).trans Q10.out
  go_wp2_with fail
  clear L147
  refine (same_below (C10.out V11)).mono ?_
  rintro e V12 ⟨rfl, hy⟩
  replace K := Lib.hid (K.out.trans (hy.mono K.out.size))
  replace N := Lib.hid (N.out.below hy N.out.lt)
  clear hy
  have L148 := (N.out.cell 11).trans Q11.out
  go_wp2_with fail
  clear L148
  refine (same_below (C11.out V12)).mono ?_
  rintro e V13 ⟨rfl, hy⟩
  replace K := Lib.hid (K.out.trans (hy.mono K.out.size))
  replace N := Lib.hid (N.out.below hy N.out.lt)
  clear hy
  have L149 : (loadVar 24 ⟨w.heap.size, 13, none⟩).run Try.prog V13 = .ok (.agg SO) V13 := by have h := run_part_load (P := Try.prog) 24 13 SO.toList _ N.out CP1.out Try.underlying24 rfl CI1.out; rwa [Array.toArray_toList] at h
  replace L149 := Lib.hid L149
  go_wp2_with (((with_reducible refine wpList_load_want (op := ⟨some 63, .load 24 (.tmp 62), _, _, _, _⟩) ?wg149 24 (.tmp 62) ?wo149 ⟨w.heap.size, 13, none⟩ ?wx149 (.agg SO) L149.out ?_); (case wg149 => rfl); (case wo149 => rfl); (case wx149 => rfl)))
  clear L149
  refine (CV1.out V13).mono ?_
  rintro e V14 ⟨rfl, hy⟩
  replace K := Lib.hid (K.out.trans (hy.mono K.out.size))
  replace N := Lib.hid (N.out.below hy N.out.lt)
  clear hy
  have L150 : (loadVar 24 ⟨w.heap.size, 30, none⟩).run Try.prog V14 = .ok (.agg SX) V14 := by have h := run_part_load (P := Try.prog) 24 30 SX.toList _ N.out CP2.out Try.underlying24 rfl CI2.out; rwa [Array.toArray_toList] at h
  replace L150 := Lib.hid L150
  go_wp2_with (((with_reducible refine wpList_load_want (op := ⟨some 68, .load 24 (.tmp 67), _, _, _, _⟩) ?wg150 24 (.tmp 67) ?wo150 ⟨w.heap.size, 30, none⟩ ?wx150 (.agg SX) L150.out ?_); (case wg150 => rfl); (case wo150 => rfl); (case wx150 => rfl)))
  clear L150
  refine (CV2.out V14).mono ?_
  rintro e V15 ⟨rfl, hy⟩
  replace K := Lib.hid (K.out.trans (hy.mono K.out.size))
  replace N := Lib.hid (N.out.below hy N.out.lt)
  clear hy
  have L151 := (N.out.cell 12).trans Q12.out
  have L152 := (N.out.cell 13).trans Q13.out
  have L153 := (N.out.cell 30).trans Q14.out
  go_wp2
  go_ret
  exact ⟨rfl, K.out⟩
theorem rcheck_any (c : Cf) (hc : c.Fit) (w : World) : Calls Try.prog 8 #[.agg c.cs] w fun e w' => e = .returned (.bool (okC c)) ∧ Below w.heap.size w w' := by
  unfold okC
  cases h0 : wi c.st 1 4 with
  | false => exact rchk_0 c hc h0 w
  | true =>
  simp only [Bool.true_and]
  cases h1 : pw c.sz 2 1024 with
  | false => exact rchk_1 c hc h0 h1 w
  | true =>
  simp only [Bool.true_and]
  cases h2 : wi c.dg 1 16 with
  | false => exact rchk_2 c hc h0 h1 h2 w
  | true =>
  simp only [Bool.true_and]
  cases h3 : pw c.bl 8 65536 with
  | false => exact rchk_3 c hc h0 h1 h2 h3 w
  | true =>
  simp only [Bool.true_and]
  cases h4 : wi c.hs 1 4 with
  | false => exact rchk_4 c hc h0 h1 h2 h3 h4 w
  | true =>
  simp only [Bool.true_and]
  cases h5 : wi c.sl 1 64 with
  | false => exact rchk_5 c hc h0 h1 h2 h3 h4 h5 w
  | true =>
  simp only [Bool.true_and]
  cases h6 : wi c.vs 2 16 with
  | false => exact rchk_6 c hc h0 h1 h2 h3 h4 h5 h6 w
  | true =>
  simp only [Bool.true_and]
  cases h7 : wi c.qu 1 256 with
  | false => exact rchk_7 c hc h0 h1 h2 h3 h4 h5 h6 h7 w
  | true =>
  simp only [Bool.true_and]
  cases h8 : wi c.ev 1 64 with
  | false => exact rchk_8 c hc h0 h1 h2 h3 h4 h5 h6 h7 h8 w
  | true =>
  simp only [Bool.true_and]
  cases h9 : wi c.id 1 1000 with
  | false => exact rchk_9 c hc h0 h1 h2 h3 h4 h5 h6 h7 h8 h9 w
  | true =>
  simp only [Bool.true_and]
  cases h10 : wi c.li 1 1000 with
  | false => exact rchk_10 c hc h0 h1 h2 h3 h4 h5 h6 h7 h8 h9 h10 w
  | true =>
  simp only [Bool.true_and]
  cases h11 : wi c.fa 1 10 with
  | false => exact rchk_11 c hc h0 h1 h2 h3 h4 h5 h6 h7 h8 h9 h10 h11 w
  | true =>
  simp only [Bool.true_and]
  cases hO : vldA c.ov c.O with
  | false => rw [show okO c = false from by unfold okO; rw [hO]; simp]; exact rchk_o c hc h0 h1 h2 h3 h4 h5 h6 h7 h8 h9 h10 h11 hO w
  | true =>
    cases hX : vldA c.xv c.X with
    | false => rw [show okO c = false from by unfold okO; rw [hX]; simp]; exact rchk_x c hc h0 h1 h2 h3 h4 h5 h6 h7 h8 h9 h10 h11 hO hX w
    | true =>
      cases hE : c.en with
      | false => rw [show okO c = true from by unfold okO; rw [hO, hX, hE]; simp]; exact rchk_n c hc h0 h1 h2 h3 h4 h5 h6 h7 h8 h9 h10 h11 hO hX hE w
      | true =>
        cases hV : c.ov with
        | true => rw [show okO c = false from by unfold okO; rw [hE, hV]; simp]; exact rchk_v c hc h0 h1 h2 h3 h4 h5 h6 h7 h8 h9 h10 h11 hO hX hE hV w
        | false => rw [show okO c = c.xv from by unfold okO; rw [hO, hX, hE, hV]; simp]; exact rchk_y c hc h0 h1 h2 h3 h4 h5 h6 h7 h8 h9 h10 h11 hO hX hE hV w
end Go.Proofs.Ytblkpnjmmdbgnaa
