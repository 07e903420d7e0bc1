/- grid's cell, of each kind. -/
import Derived.Test.YtimnmdeiiahakaaS19a
import Derived.Deep.CutBlock
import Derived.Deep.DeepCutAuto
import Derived.LoopTactic
import Derived.Handy
namespace Go.Proofs.Ytimnmdeiiahakaa
open Go.RowKit Go.Lib

set_option maxRecDepth 100000 in
set_option maxHeartbeats 4000000 in
theorem cellI_no (B st sz : Nat) (c : Nat → Option Int) (a b : Int) (h1 : ¬ inP st sz a b) (w : World) (h : GdI B st sz c w) :
    Calls Try.prog 29 #[.pointer (some ⟨B + 1, 0, none⟩), .agg (plA a b)] w fun e w' => e = .returned (.pointer none) ∧ Below w.heap.size w w' := by
  have K := Lib.hid (Below.refl w.heap.size w)
  have HG := Lib.hid h
  have CI := Lib.hid (fun W h => inI_any B st sz c a b W h)
  rw [decide_eq_false h1] at CI
  clear h h1
  have PI := Lib.hid (plA_i a b)
  generalize plA a b = pc at *
  go_enter Try.func29, Try.ntmps29
  have hal := (Below.refl w.heap.size w).alloc (Nat.le_refl _) (.cells pc 30)
  replace K := Lib.hid (K.out.trans (hal.mono K.out.size))
  replace HG := Lib.hid (HG.out.below hal)
  have P := Lib.hid (Blk.new w 30 pc)
  clear hal
  have L1 : (loadVar 30 ⟨w.heap.size, 0, none⟩).run Try.prog (w.alloc (.cells pc 30)) = .ok (.agg pc) (w.alloc (.cells pc 30)) := run_blk_load (P := Try.prog) 30 (w.heap.size) _ P.out Try.underlying30 rfl PI.out
  replace L1 := Lib.hid L1
  go_wp2_with (((with_reducible refine wpList_load_want (op := ⟨some 6, .load 30 (.tmp 3), _, _, _, _⟩) ?wg1 30 (.tmp 3) ?wo1 ⟨w.heap.size, 0, none⟩ ?wx1 (.agg pc) L1.out ?_); (case wg1 => rfl); (case wo1 => rfl); (case wx1 => rfl)))
  clear L1
  have hzV1 : Hid ((w.alloc (.cells pc 30)).heap.size = w.heap.size + 1) := by show _ = _; simp only [World.size_alloc]
  generalize (w.alloc (.cells pc 30)) = V1 at *
  refine (CI.out V1 HG.out).mono ?_
  rintro e V2 ⟨rfl, hy⟩
  replace K := Lib.hid (K.out.trans (hy.mono K.out.size))
  replace HG := Lib.hid (HG.out.below hy)
  replace P := Lib.hid (P.out.below hy P.out.lt)
  clear hy
  go_wp2
  go_ret
  exact ⟨rfl, K.out⟩
set_option maxRecDepth 100000 in
set_option maxHeartbeats 4000000 in
theorem cellI_yes (B st sz : Nat) (c : Nat → Option Int) (s i : Nat) (hs : s < st) (hi : i < sz) (w : World) (h : GdI B st sz c w) :
    Calls Try.prog 29 #[.pointer (some ⟨B + 1, 0, none⟩), .agg (plA s i)] w fun e w' => e = .returned (.pointer (some ⟨B + 2 + s, i * 2, none⟩)) ∧ Below w.heap.size w w' := by
  have K := Lib.hid (Below.refl w.heap.size w)
  have HG := Lib.hid h
  have CI := Lib.hid (fun W h => inI_any B st sz c s i W h)
  rw [decide_eq_true (show inP st sz (s : Int) (i : Int) from ⟨by omega, by omega, by omega, by omega⟩)] at CI
  have HD := Lib.hid (hdr_get B sz st s hs)
  obtain ⟨p0, p1⟩ := plA_get (s : Int) (i : Int)
  have P0 := Lib.hid p0
  have P1 := Lib.hid p1
  have PI := Lib.hid (plA_i (s : Int) (i : Int))
  obtain ⟨g0, g1⟩ := grC_get B st (itF c 0 (st * sz)).length
  have G0 := Lib.hid g0
  have hst := h.s2
  have hsz := h.z2
  have hs0 : 0 ≤ (s : Int) ∧ (s : Int) < (st : Int) := by omega
  have hi0 : 0 ≤ (i : Int) ∧ (i : Int) < (sz : Int) := by omega
  clear p0 p1 g0 g1 h
  generalize plA (s : Int) (i : Int) = pc at *
  go_enter Try.func29, Try.ntmps29
  have hal := (Below.refl w.heap.size w).alloc (Nat.le_refl _) (.cells pc 30)
  replace K := Lib.hid (K.out.trans (hal.mono K.out.size))
  replace HG := Lib.hid (HG.out.below hal)
  have P := Lib.hid (Blk.new w 30 pc)
  clear hal
  have L2 : (loadVar 30 ⟨w.heap.size, 0, none⟩).run Try.prog (w.alloc (.cells pc 30)) = .ok (.agg pc) (w.alloc (.cells pc 30)) := run_blk_load (P := Try.prog) 30 (w.heap.size) _ P.out Try.underlying30 rfl PI.out
  replace L2 := Lib.hid L2
  go_wp2_with (((with_reducible refine wpList_load_want (op := ⟨some 6, .load 30 (.tmp 3), _, _, _, _⟩) ?wg2 30 (.tmp 3) ?wo2 ⟨w.heap.size, 0, none⟩ ?wx2 (.agg pc) L2.out ?_); (case wg2 => rfl); (case wo2 => rfl); (case wx2 => rfl)))
  clear L2
  have hzV1 : Hid ((w.alloc (.cells pc 30)).heap.size = w.heap.size + 1) := by show _ = _; simp only [World.size_alloc]
  generalize (w.alloc (.cells pc 30)) = V1 at *
  refine (CI.out V1 HG.out).mono ?_
  rintro e V2 ⟨rfl, hy⟩
  replace K := Lib.hid (K.out.trans (hy.mono K.out.size))
  replace HG := Lib.hid (HG.out.below hy)
  replace P := Lib.hid (P.out.below hy P.out.lt)
  clear hy
  have G := Lib.hid HG.out.G
  have R := Lib.hid HG.out.R
  generalize grC B st (itF c 0 (st * sz)).length = gc at *
  go_wp2_with fail
  refine wp_region_held (S := (fun w' : World => Below (V2.heap.size) V2 w')) (by kernel_rfl) ?_
  change wpAnyH _ _ _ _ _ _ _ _ V2.drew
  have hy : Below V2.heap.size V2 V2.drew := (Below.refl _ _).drew
  have hE0 : Below (V2.heap.size) V2 V2.drew := (Below.refl _ _).drew
  clear hy
  generalize V2.drew = Y3x0 at hE0  ⊢
  have E0 := Lib.hid hE0
  clear hE0
  refine tkA 0 (?_) ?_ E0.out ?_
  rotate_left
  · (intro w1 hS; go_simp; try with_reducible rfl)
  simp only [Act.put, tS1, tS2, tS3]
  refine tkA 1 (?_) ?_ E0.out ?_
  rotate_left
  · (intro w1 hS; go_simp; try with_reducible rfl)
  simp only [Act.put, tS1, tS2, tS3]
  refine tkA 2 (?_) ?_ E0.out ?_
  rotate_left
  · (intro w1 hS; go_simp; try with_reducible rfl)
  simp only [Act.put, tS1, tS2, tS3]
  refine tkA 3 (?_) ?_ E0.out ?_
  rotate_left
  · (intro w1 hS; have hW := hS; have q := ((G.out.below hW G.out.lt).cell 0).trans G0.out; clear hW hS; go_simp; try with_reducible rfl)
  simp only [Act.put, tS1, tS2, tS3]
  refine tkA 4 (?_) ?_ E0.out ?_
  rotate_left
  · (intro w1 hS; go_simp; try with_reducible rfl)
  simp only [Act.put, tS1, tS2, tS3]
  refine tkA 5 (?_) ?_ E0.out ?_
  rotate_left
  · (intro w1 hS; have hW := hS; have q := ((P.out.below hW P.out.lt).cell 0).trans P0.out; clear hW hS; go_simp; try with_reducible rfl)
  simp only [Act.put, tS1, tS2, tS3]
  refine tkA 6 (?_) ?_ E0.out ?_
  rotate_left
  · (intro w1 hS; go_simp; try with_reducible rfl)
  simp only [Act.put, tS1, tS2, tS3]
  refine tkA 7 (?_) ?_ E0.out ?_
  rotate_left
  · (intro w1 hS; have hW := hS; have q := ((R.out.below hW R.out.lt).cell s).trans HD.out; clear hW hS; go_simp; try with_reducible rfl)
  simp only [Act.put, tS1, tS2, tS3]
  refine tkA 8 (?_) ?_ E0.out ?_
  rotate_left
  · (intro w1 hS; go_simp; try with_reducible rfl)
  simp only [Act.put, tS1, tS2, tS3]
  refine tkA 9 (?_) ?_ E0.out ?_
  rotate_left
  · (intro w1 hS; have hW := hS; have q := ((P.out.below hW P.out.lt).cell 1).trans P1.out; clear hW hS; go_simp; try with_reducible rfl)
  simp only [Act.put, tS1, tS2, tS3]
  refine tkA 10 (?_) ?_ E0.out ?_
  rotate_left
  · (intro w1 hS; go_simp; try with_reducible rfl)
  simp only [Act.put, tS1, tS2, tS3]
  refine tkA 11 (?_) ?_ E0.out ?_
  rotate_left
  · (intro w1 hS; go_simp; try with_reducible rfl)
  simp only [Act.put, tS1, tS2, tS3]
  refine wpAnyH_done (by kernel_rfl) ?_ _
  have hy := E0.out
  replace K := Lib.hid (K.out.trans (hy.mono K.out.size))
  replace HG := Lib.hid (HG.out.below hy)
  replace P := Lib.hid (P.out.below hy P.out.lt)
  replace G := Lib.hid (G.out.below hy G.out.lt)
  replace R := Lib.hid (R.out.below hy R.out.lt)
  clear hy E0
  go_wp2
  go_ret
  exact ⟨rfl, K.out⟩
set_option maxRecDepth 100000 in
set_option maxHeartbeats 4000000 in
theorem cellA_no (B st sz : Nat) (c : Nat → Option (Int × Int)) (a b : Int) (h1 : ¬ inP st sz a b) (w : World) (h : GdA B st sz c w) :
    Calls Try.prog 31 #[.pointer (some ⟨B + 1, 0, none⟩), .agg (plA a b)] w fun e w' => e = .returned (.pointer none) ∧ Below w.heap.size w w' := by
  have K := Lib.hid (Below.refl w.heap.size w)
  have HG := Lib.hid h
  have CI := Lib.hid (fun W h => inA_any B st sz c a b W h)
  rw [decide_eq_false h1] at CI
  clear h h1
  have PI := Lib.hid (plA_i a b)
  generalize plA a b = pc at *
  go_enter Try.func31, Try.ntmps31
  have hal := (Below.refl w.heap.size w).alloc (Nat.le_refl _) (.cells pc 30)
  replace K := Lib.hid (K.out.trans (hal.mono K.out.size))
  replace HG := Lib.hid (HG.out.below hal)
  have P := Lib.hid (Blk.new w 30 pc)
  clear hal
  have L3 : (loadVar 30 ⟨w.heap.size, 0, none⟩).run Try.prog (w.alloc (.cells pc 30)) = .ok (.agg pc) (w.alloc (.cells pc 30)) := run_blk_load (P := Try.prog) 30 (w.heap.size) _ P.out Try.underlying30 rfl PI.out
  replace L3 := Lib.hid L3
  go_wp2_with (((with_reducible refine wpList_load_want (op := ⟨some 6, .load 30 (.tmp 3), _, _, _, _⟩) ?wg3 30 (.tmp 3) ?wo3 ⟨w.heap.size, 0, none⟩ ?wx3 (.agg pc) L3.out ?_); (case wg3 => rfl); (case wo3 => rfl); (case wx3 => rfl)))
  clear L3
  have hzV1 : Hid ((w.alloc (.cells pc 30)).heap.size = w.heap.size + 1) := by show _ = _; simp only [World.size_alloc]
  generalize (w.alloc (.cells pc 30)) = V1 at *
  refine (CI.out V1 HG.out).mono ?_
  rintro e V2 ⟨rfl, hy⟩
  replace K := Lib.hid (K.out.trans (hy.mono K.out.size))
  replace HG := Lib.hid (HG.out.below hy)
  replace P := Lib.hid (P.out.below hy P.out.lt)
  clear hy
  go_wp2
  go_ret
  exact ⟨rfl, K.out⟩
set_option maxRecDepth 100000 in
set_option maxHeartbeats 4000000 in
theorem cellA_yes (B st sz : Nat) (c : Nat → Option (Int × Int)) (s i : Nat) (hs : s < st) (hi : i < sz) (w : World) (h : GdA B st sz c w) :
    Calls Try.prog 31 #[.pointer (some ⟨B + 1, 0, none⟩), .agg (plA s i)] w fun e w' => e = .returned (.pointer (some ⟨B + 2 + s, i * 3, none⟩)) ∧ Below w.heap.size w w' := by
  have K := Lib.hid (Below.refl w.heap.size w)
  have HG := Lib.hid h
  have CI := Lib.hid (fun W h => inA_any B st sz c s i W h)
  rw [decide_eq_true (show inP st sz (s : Int) (i : Int) from ⟨by omega, by omega, by omega, by omega⟩)] at CI
  have HD := Lib.hid (hdr_get B sz st s hs)
  obtain ⟨p0, p1⟩ := plA_get (s : Int) (i : Int)
  have P0 := Lib.hid p0
  have P1 := Lib.hid p1
  have PI := Lib.hid (plA_i (s : Int) (i : Int))
  obtain ⟨g0, g1⟩ := grC_get B st (itF c 0 (st * sz)).length
  have G0 := Lib.hid g0
  have hst := h.s2
  have hsz := h.z2
  have hs0 : 0 ≤ (s : Int) ∧ (s : Int) < (st : Int) := by omega
  have hi0 : 0 ≤ (i : Int) ∧ (i : Int) < (sz : Int) := by omega
  clear p0 p1 g0 g1 h
  generalize plA (s : Int) (i : Int) = pc at *
  go_enter Try.func31, Try.ntmps31
  have hal := (Below.refl w.heap.size w).alloc (Nat.le_refl _) (.cells pc 30)
  replace K := Lib.hid (K.out.trans (hal.mono K.out.size))
  replace HG := Lib.hid (HG.out.below hal)
  have P := Lib.hid (Blk.new w 30 pc)
  clear hal
  have L4 : (loadVar 30 ⟨w.heap.size, 0, none⟩).run Try.prog (w.alloc (.cells pc 30)) = .ok (.agg pc) (w.alloc (.cells pc 30)) := run_blk_load (P := Try.prog) 30 (w.heap.size) _ P.out Try.underlying30 rfl PI.out
  replace L4 := Lib.hid L4
  go_wp2_with (((with_reducible refine wpList_load_want (op := ⟨some 6, .load 30 (.tmp 3), _, _, _, _⟩) ?wg4 30 (.tmp 3) ?wo4 ⟨w.heap.size, 0, none⟩ ?wx4 (.agg pc) L4.out ?_); (case wg4 => rfl); (case wo4 => rfl); (case wx4 => rfl)))
  clear L4
  have hzV1 : Hid ((w.alloc (.cells pc 30)).heap.size = w.heap.size + 1) := by show _ = _; simp only [World.size_alloc]
  generalize (w.alloc (.cells pc 30)) = V1 at *
  refine (CI.out V1 HG.out).mono ?_
  rintro e V2 ⟨rfl, hy⟩
  replace K := Lib.hid (K.out.trans (hy.mono K.out.size))
  replace HG := Lib.hid (HG.out.below hy)
  replace P := Lib.hid (P.out.below hy P.out.lt)
  clear hy
  have G := Lib.hid HG.out.G
  have R := Lib.hid HG.out.R
  generalize grC B st (itF c 0 (st * sz)).length = gc at *
  go_wp2_with fail
  refine wp_region_held (S := (fun w' : World => Below (V2.heap.size) V2 w')) (by kernel_rfl) ?_
  change wpAnyH _ _ _ _ _ _ _ _ V2.drew
  have hy : Below V2.heap.size V2 V2.drew := (Below.refl _ _).drew
  have hE0 : Below (V2.heap.size) V2 V2.drew := (Below.refl _ _).drew
  clear hy
  generalize V2.drew = Y3x0 at hE0  ⊢
  have E0 := Lib.hid hE0
  clear hE0
  refine tkA 0 (?_) ?_ E0.out ?_
  rotate_left
  · (intro w1 hS; go_simp; try with_reducible rfl)
  simp only [Act.put, tS1, tS2, tS3]
  refine tkA 1 (?_) ?_ E0.out ?_
  rotate_left
  · (intro w1 hS; go_simp; try with_reducible rfl)
  simp only [Act.put, tS1, tS2, tS3]
  refine tkA 2 (?_) ?_ E0.out ?_
  rotate_left
  · (intro w1 hS; go_simp; try with_reducible rfl)
  simp only [Act.put, tS1, tS2, tS3]
  refine tkA 3 (?_) ?_ E0.out ?_
  rotate_left
  · (intro w1 hS; have hW := hS; have q := ((G.out.below hW G.out.lt).cell 0).trans G0.out; clear hW hS; go_simp; try with_reducible rfl)
  simp only [Act.put, tS1, tS2, tS3]
  refine tkA 4 (?_) ?_ E0.out ?_
  rotate_left
  · (intro w1 hS; go_simp; try with_reducible rfl)
  simp only [Act.put, tS1, tS2, tS3]
  refine tkA 5 (?_) ?_ E0.out ?_
  rotate_left
  · (intro w1 hS; have hW := hS; have q := ((P.out.below hW P.out.lt).cell 0).trans P0.out; clear hW hS; go_simp; try with_reducible rfl)
  simp only [Act.put, tS1, tS2, tS3]
  refine tkA 6 (?_) ?_ E0.out ?_
  rotate_left
  · (intro w1 hS; go_simp; try with_reducible rfl)
  simp only [Act.put, tS1, tS2, tS3]
  refine tkA 7 (?_) ?_ E0.out ?_
  rotate_left
  · (intro w1 hS; have hW := hS; have q := ((R.out.below hW R.out.lt).cell s).trans HD.out; clear hW hS; go_simp; try with_reducible rfl)
  simp only [Act.put, tS1, tS2, tS3]
  refine tkA 8 (?_) ?_ E0.out ?_
  rotate_left
  · (intro w1 hS; go_simp; try with_reducible rfl)
  simp only [Act.put, tS1, tS2, tS3]
  refine tkA 9 (?_) ?_ E0.out ?_
  rotate_left
  · (intro w1 hS; have hW := hS; have q := ((P.out.below hW P.out.lt).cell 1).trans P1.out; clear hW hS; go_simp; try with_reducible rfl)
  simp only [Act.put, tS1, tS2, tS3]
  refine tkA 10 (?_) ?_ E0.out ?_
  rotate_left
  · (intro w1 hS; go_simp; try with_reducible rfl)
  simp only [Act.put, tS1, tS2, tS3]
  refine tkA 11 (?_) ?_ E0.out ?_
  rotate_left
  · (intro w1 hS; go_simp; try with_reducible rfl)
  simp only [Act.put, tS1, tS2, tS3]
  refine wpAnyH_done (by kernel_rfl) ?_ _
  have hy := E0.out
  replace K := Lib.hid (K.out.trans (hy.mono K.out.size))
  replace HG := Lib.hid (HG.out.below hy)
  replace P := Lib.hid (P.out.below hy P.out.lt)
  replace G := Lib.hid (G.out.below hy G.out.lt)
  replace R := Lib.hid (R.out.below hy R.out.lt)
  clear hy E0
  go_wp2
  go_ret
  exact ⟨rfl, K.out⟩
set_option maxRecDepth 100000 in
set_option maxHeartbeats 4000000 in
theorem cellS_no (B st sz : Nat) (c : Nat → Option ByteArray) (a b : Int) (h1 : ¬ inP st sz a b) (w : World) (h : GdS B st sz c w) :
    Calls Try.prog 33 #[.pointer (some ⟨B + 1, 0, none⟩), .agg (plA a b)] w fun e w' => e = .returned (.pointer none) ∧ Below w.heap.size w w' := by
  have K := Lib.hid (Below.refl w.heap.size w)
  have HG := Lib.hid h
  have CI := Lib.hid (fun W h => inS_any B st sz c a b W h)
  rw [decide_eq_false h1] at CI
  clear h h1
  have PI := Lib.hid (plA_i a b)
  generalize plA a b = pc at *
  go_enter Try.func33, Try.ntmps33
  have hal := (Below.refl w.heap.size w).alloc (Nat.le_refl _) (.cells pc 30)
  replace K := Lib.hid (K.out.trans (hal.mono K.out.size))
  replace HG := Lib.hid (HG.out.below hal)
  have P := Lib.hid (Blk.new w 30 pc)
  clear hal
  have L5 : (loadVar 30 ⟨w.heap.size, 0, none⟩).run Try.prog (w.alloc (.cells pc 30)) = .ok (.agg pc) (w.alloc (.cells pc 30)) := run_blk_load (P := Try.prog) 30 (w.heap.size) _ P.out Try.underlying30 rfl PI.out
  replace L5 := Lib.hid L5
  go_wp2_with (((with_reducible refine wpList_load_want (op := ⟨some 6, .load 30 (.tmp 3), _, _, _, _⟩) ?wg5 30 (.tmp 3) ?wo5 ⟨w.heap.size, 0, none⟩ ?wx5 (.agg pc) L5.out ?_); (case wg5 => rfl); (case wo5 => rfl); (case wx5 => rfl)))
  clear L5
  have hzV1 : Hid ((w.alloc (.cells pc 30)).heap.size = w.heap.size + 1) := by show _ = _; simp only [World.size_alloc]
  generalize (w.alloc (.cells pc 30)) = V1 at *
  refine (CI.out V1 HG.out).mono ?_
  rintro e V2 ⟨rfl, hy⟩
  replace K := Lib.hid (K.out.trans (hy.mono K.out.size))
  replace HG := Lib.hid (HG.out.below hy)
  replace P := Lib.hid (P.out.below hy P.out.lt)
  clear hy
  go_wp2
  go_ret
  exact ⟨rfl, K.out⟩
set_option maxRecDepth 100000 in
set_option maxHeartbeats 4000000 in
theorem cellS_yes (B st sz : Nat) (c : Nat → Option ByteArray) (s i : Nat) (hs : s < st) (hi : i < sz) (w : World) (h : GdS B st sz c w) :
    Calls Try.prog 33 #[.pointer (some ⟨B + 1, 0, none⟩), .agg (plA s i)] w fun e w' => e = .returned (.pointer (some ⟨B + 2 + s, i * 2, none⟩)) ∧ Below w.heap.size w w' := by
  have K := Lib.hid (Below.refl w.heap.size w)
  have HG := Lib.hid h
  have CI := Lib.hid (fun W h => inS_any B st sz c s i W h)
  rw [decide_eq_true (show inP st sz (s : Int) (i : Int) from ⟨by omega, by omega, by omega, by omega⟩)] at CI
  have HD := Lib.hid (hdr_get B sz st s hs)
  obtain ⟨p0, p1⟩ := plA_get (s : Int) (i : Int)
  have P0 := Lib.hid p0
  have P1 := Lib.hid p1
  have PI := Lib.hid (plA_i (s : Int) (i : Int))
  obtain ⟨g0, g1⟩ := grC_get B st (itF c 0 (st * sz)).length
  have G0 := Lib.hid g0
  have hst := h.s2
  have hsz := h.z2
  have hs0 : 0 ≤ (s : Int) ∧ (s : Int) < (st : Int) := by omega
  have hi0 : 0 ≤ (i : Int) ∧ (i : Int) < (sz : Int) := by omega
  clear p0 p1 g0 g1 h
  generalize plA (s : Int) (i : Int) = pc at *
  go_enter Try.func33, Try.ntmps33
  have hal := (Below.refl w.heap.size w).alloc (Nat.le_refl _) (.cells pc 30)
  replace K := Lib.hid (K.out.trans (hal.mono K.out.size))
  replace HG := Lib.hid (HG.out.below hal)
  have P := Lib.hid (Blk.new w 30 pc)
  clear hal
  have L6 : (loadVar 30 ⟨w.heap.size, 0, none⟩).run Try.prog (w.alloc (.cells pc 30)) = .ok (.agg pc) (w.alloc (.cells pc 30)) := run_blk_load (P := Try.prog) 30 (w.heap.size) _ P.out Try.underlying30 rfl PI.out
  replace L6 := Lib.hid L6
  go_wp2_with (((with_reducible refine wpList_load_want (op := ⟨some 6, .load 30 (.tmp 3), _, _, _, _⟩) ?wg6 30 (.tmp 3) ?wo6 ⟨w.heap.size, 0, none⟩ ?wx6 (.agg pc) L6.out ?_); (case wg6 => rfl); (case wo6 => rfl); (case wx6 => rfl)))
  clear L6
  have hzV1 : Hid ((w.alloc (.cells pc 30)).heap.size = w.heap.size + 1) := by show _ = _; simp only [World.size_alloc]
  generalize (w.alloc (.cells pc 30)) = V1 at *
  refine (CI.out V1 HG.out).mono ?_
  rintro e V2 ⟨rfl, hy⟩
  replace K := Lib.hid (K.out.trans (hy.mono K.out.size))
  replace HG := Lib.hid (HG.out.below hy)
  replace P := Lib.hid (P.out.below hy P.out.lt)
  clear hy
  have G := Lib.hid HG.out.G
  have R := Lib.hid HG.out.R
  generalize grC B st (itF c 0 (st * sz)).length = gc at *
  go_wp2_with fail
  refine wp_region_held (S := (fun w' : World => Below (V2.heap.size) V2 w')) (by kernel_rfl) ?_
  change wpAnyH _ _ _ _ _ _ _ _ V2.drew
  have hy : Below V2.heap.size V2 V2.drew := (Below.refl _ _).drew
  have hE0 : Below (V2.heap.size) V2 V2.drew := (Below.refl _ _).drew
  clear hy
  generalize V2.drew = Y3x0 at hE0  ⊢
  have E0 := Lib.hid hE0
  clear hE0
  refine tkA 0 (?_) ?_ E0.out ?_
  rotate_left
  · (intro w1 hS; go_simp; try with_reducible rfl)
  simp only [Act.put, tS1, tS2, tS3]
  refine tkA 1 (?_) ?_ E0.out ?_
  rotate_left
  · (intro w1 hS; go_simp; try with_reducible rfl)
  simp only [Act.put, tS1, tS2, tS3]
  refine tkA 2 (?_) ?_ E0.out ?_
  rotate_left
  · (intro w1 hS; go_simp; try with_reducible rfl)
  simp only [Act.put, tS1, tS2, tS3]
  refine tkA 3 (?_) ?_ E0.out ?_
  rotate_left
  · (intro w1 hS; have hW := hS; have q := ((G.out.below hW G.out.lt).cell 0).trans G0.out; clear hW hS; go_simp; try with_reducible rfl)
  simp only [Act.put, tS1, tS2, tS3]
  refine tkA 4 (?_) ?_ E0.out ?_
  rotate_left
  · (intro w1 hS; go_simp; try with_reducible rfl)
  simp only [Act.put, tS1, tS2, tS3]
  refine tkA 5 (?_) ?_ E0.out ?_
  rotate_left
  · (intro w1 hS; have hW := hS; have q := ((P.out.below hW P.out.lt).cell 0).trans P0.out; clear hW hS; go_simp; try with_reducible rfl)
  simp only [Act.put, tS1, tS2, tS3]
  refine tkA 6 (?_) ?_ E0.out ?_
  rotate_left
  · (intro w1 hS; go_simp; try with_reducible rfl)
  simp only [Act.put, tS1, tS2, tS3]
  refine tkA 7 (?_) ?_ E0.out ?_
  rotate_left
  · (intro w1 hS; have hW := hS; have q := ((R.out.below hW R.out.lt).cell s).trans HD.out; clear hW hS; go_simp; try with_reducible rfl)
  simp only [Act.put, tS1, tS2, tS3]
  refine tkA 8 (?_) ?_ E0.out ?_
  rotate_left
  · (intro w1 hS; go_simp; try with_reducible rfl)
  simp only [Act.put, tS1, tS2, tS3]
  refine tkA 9 (?_) ?_ E0.out ?_
  rotate_left
  · (intro w1 hS; have hW := hS; have q := ((P.out.below hW P.out.lt).cell 1).trans P1.out; clear hW hS; go_simp; try with_reducible rfl)
  simp only [Act.put, tS1, tS2, tS3]
  refine tkA 10 (?_) ?_ E0.out ?_
  rotate_left
  · (intro w1 hS; go_simp; try with_reducible rfl)
  simp only [Act.put, tS1, tS2, tS3]
  refine tkA 11 (?_) ?_ E0.out ?_
  rotate_left
  · (intro w1 hS; go_simp; try with_reducible rfl)
  simp only [Act.put, tS1, tS2, tS3]
  refine wpAnyH_done (by kernel_rfl) ?_ _
  have hy := E0.out
  replace K := Lib.hid (K.out.trans (hy.mono K.out.size))
  replace HG := Lib.hid (HG.out.below hy)
  replace P := Lib.hid (P.out.below hy P.out.lt)
  replace G := Lib.hid (G.out.below hy G.out.lt)
  replace R := Lib.hid (R.out.below hy R.out.lt)
  clear hy E0
  go_wp2
  go_ret
  exact ⟨rfl, K.out⟩
set_option maxRecDepth 100000 in
set_option maxHeartbeats 4000000 in
theorem cellS_nil (a b : Int) (w : World) :
    Calls Try.prog 33 #[.pointer none, .agg (plA a b)] w fun e w' => e = .returned (.pointer none) ∧ Below w.heap.size w w' := by
  have K := Lib.hid (Below.refl w.heap.size w)
  have CI := Lib.hid (fun W => inS_nil a b W)
  have PI := Lib.hid (plA_i a b)
  generalize plA a b = pc at *
  go_enter Try.func33, Try.ntmps33
  have hal := (Below.refl w.heap.size w).alloc (Nat.le_refl _) (.cells pc 30)
  replace K := Lib.hid (K.out.trans (hal.mono K.out.size))
  have P := Lib.hid (Blk.new w 30 pc)
  clear hal
  have L7 : (loadVar 30 ⟨w.heap.size, 0, none⟩).run Try.prog (w.alloc (.cells pc 30)) = .ok (.agg pc) (w.alloc (.cells pc 30)) := run_blk_load (P := Try.prog) 30 (w.heap.size) _ P.out Try.underlying30 rfl PI.out
  replace L7 := Lib.hid L7
  go_wp2_with (((with_reducible refine wpList_load_want (op := ⟨some 6, .load 30 (.tmp 3), _, _, _, _⟩) ?wg7 30 (.tmp 3) ?wo7 ⟨w.heap.size, 0, none⟩ ?wx7 (.agg pc) L7.out ?_); (case wg7 => rfl); (case wo7 => rfl); (case wx7 => rfl)))
  clear L7
  have hzV1 : Hid ((w.alloc (.cells pc 30)).heap.size = w.heap.size + 1) := by show _ = _; simp only [World.size_alloc]
  generalize (w.alloc (.cells pc 30)) = V1 at *
  refine (CI.out V1).mono ?_
  rintro e V2 ⟨rfl, hy⟩
  replace K := Lib.hid (K.out.trans (hy.mono K.out.size))
  replace P := Lib.hid (P.out.below hy P.out.lt)
  clear hy
  go_wp2
  go_ret
  exact ⟨rfl, K.out⟩
end Go.Proofs.Ytimnmdeiiahakaa
