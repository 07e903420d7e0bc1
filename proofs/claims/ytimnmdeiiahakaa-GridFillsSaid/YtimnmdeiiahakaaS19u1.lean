/- grid's Get of pairs, at a place that is free. -/
import Derived.Test.YtimnmdeiiahakaaS19e
import Derived.Test.YtimnmdeiiahakaaSw
import Derived.Deep.CutBlock
import Derived.Deep.DeepCutAuto
import Derived.LoopTactic
import Derived.Handy
namespace Go.Proofs.Ytimnmdeiiahakaa
open Go.RowKit Go.Lib

theorem zero46 (W : World) : (zeroValue 46).run Try.prog W = .ok (.agg #[.int .i64 0, .int .i64 0]) W := by kernel_rfl
theorem one46 : (#[Value.int .i64 0, .int .i64 0] : Array Value).all (·.oneCell') = true := by simp; first | done | rfl
set_option maxRecDepth 100000 in
set_option maxHeartbeats 4000000 in
theorem getA_none (B st sz : Nat) (c : Nat → Option (Int × Int)) (s i : Nat) (hs : s < st) (hi : i < sz) (hc : c (s * sz + i) = none) (w : World) (h : GdA B st sz c w) :
    Calls Try.prog 22 #[.pointer (some ⟨B + 1, 0, none⟩), .agg (plA s i)] w fun e w' => e = .returned (.tuple #[.agg #[.int .i64 0, .int .i64 0], .bool false]) ∧ Below w.heap.size w w' := by
  have K := Lib.hid (Below.refl w.heap.size w)
  have HG := Lib.hid h
  have CC := Lib.hid (fun W h => cellA_yes B st sz c s i hs hi W h)
  have qm : i * 3 < sz * 3 := by omega
  have hst := h.s2
  have hsz := h.z2
  have hlt := h.lt
  clear h
  have PI := Lib.hid (plA_i (s : Int) (i : Int))
  generalize plA (s : Int) (i : Int) = pc at *
  have hq := eqcA_some ⟨B + 2 + s, i * 3, none⟩
  have HCC := Lib.hid hc
  clear hc
  have RI : Hid ((Try.prog.info? 46).map (·.size) = some (#[Value.int .i64 0, .int .i64 0] : Array Value).size) := i46
  obtain ⟨zc, hzc⟩ : ∃ z, z = (#[Value.int .i64 0, .int .i64 0] : Array Value) := ⟨_, rfl⟩
  have HZC := Lib.hid hzc
  have Z46 := Lib.hid zero46
  rw [← hzc] at RI Z46 ⊢
  clear hzc
  go_enter Try.func22, Try.ntmps22
  have hal := (Below.refl w.heap.size w).alloc (Nat.le_refl _) (.cells pc 30)
  replace K := Lib.hid (K.out.trans (hal.mono K.out.size))
  replace HG := Lib.hid (HG.out.below hal)
  have P := Lib.hid (Blk.new w 30 pc)
  clear hal
  have z46 := Z46.out
  have hal := (Below.refl (w.alloc (.cells pc 30)).heap.size (w.alloc (.cells pc 30))).alloc (Nat.le_refl _) (.cells zc 46)
  replace K := Lib.hid (K.out.trans (hal.mono K.out.size))
  replace HG := Lib.hid (HG.out.below hal)
  replace P := Lib.hid (P.out.below hal P.out.lt)
  have RRq := Blk.new (w.alloc (.cells pc 30)) 46 zc
  simp only [World.size_alloc] at RRq
  have RR := Lib.hid RRq
  clear RRq
  clear hal
  have L11 : (loadVar 30 ⟨w.heap.size, 0, none⟩).run Try.prog ((w.alloc (.cells pc 30)).alloc (.cells zc 46)) = .ok (.agg pc) ((w.alloc (.cells pc 30)).alloc (.cells zc 46)) := run_blk_load (P := Try.prog) 30 (w.heap.size) _ P.out Try.underlying30 rfl PI.out
  replace L11 := Lib.hid L11
  go_wp2_with (((with_reducible refine wpList_load_want (op := ⟨some 9, .load 30 (.tmp 3), _, _, _, _⟩) ?wg11 30 (.tmp 3) ?wo11 ⟨w.heap.size, 0, none⟩ ?wx11 (.agg pc) L11.out ?_); (case wg11 => rfl); (case wo11 => rfl); (case wx11 => rfl)))
  clear L11
  have hzV1 : Hid (((w.alloc (.cells pc 30)).alloc (.cells zc 46)).heap.size = w.heap.size + 1 + 1) := by show _ = _; simp only [World.size_alloc]
  generalize ((w.alloc (.cells pc 30)).alloc (.cells zc 46)) = V1 at *
  clear z46
  refine (CC.out V1 HG.out).mono ?_
  rintro e V2 ⟨rfl, hy⟩
  replace K := Lib.hid (K.out.trans (hy.mono K.out.size))
  replace HG := Lib.hid (HG.out.below hy)
  replace P := Lib.hid (P.out.below hy P.out.lt)
  replace RR := Lib.hid (RR.out.below hy RR.out.lt)
  clear hy
  have C := Lib.hid (HG.out.C s hs)
  have GC := Lib.hid (fun j (hj : j < 3) => (rowC_get encA 3 encA_len c (s * sz) sz i j hi hj))
  have GE0 : Hid ((rowC encA c (s * sz) sz).toArray[i * 3]? = some (.bool false)) := by
    show (rowC encA c (s * sz) sz).toArray[i * 3]? = _
    rw [List.getElem?_toArray]
    refine (GC.out 0 (by omega)).trans ?_
    rw [HCC.out]; rfl
  have LD : Hid (∀ W, Blk W (B + 2 + s) 83 (rowC encA c (s * sz) sz).toArray → (loadVar 46 ⟨B + 2 + s, i * 3 + 1, none⟩).run Try.prog W = .ok (.agg zc) W) := by
    show ∀ W, _
    intro W hW
    rw [HZC.out]
    exact run_loadVar_mid (P := Try.prog) W (B + 2 + s) (i * 3 + 1) 46 [.int .i64 0, .int .i64 0] _ (fun j v hj => by
      rw [hW.cell, List.getElem?_toArray]
      have hj2 : j < 2 := (List.getElem?_eq_some_iff.1 hj).1
      rw [show i * 3 + 1 + j = i * 3 + (1 + j) by omega, GC.out (1 + j) (by omega), HCC.out]
      match j, hj2, hj with
      | 0, _, hj => cases hj; rfl
      | 1, _, hj => cases hj; rfl) Try.underlying46 rfl i46
  clear GC
  go_wp2_with fail
  obtain ⟨gR, hgR⟩ : ∃ g, g = w.heap.size + 1 := ⟨_, rfl⟩
  rw [← hgR] at RR ⊢
  have hR1 : w.heap.size ≤ gR := by omega
  clear hgR
  go_wp2_with fail
  refine wp_region_held (S := (fun w' : World => Blk w' (B + 2 + s) 83 (rowC encA c (s * sz) sz).toArray)) (by kernel_rfl) ?_
  change wpAnyH _ _ _ _ _ _ _ _ V2.drew
  have hy : Below V2.heap.size V2 V2.drew := (Below.refl _ _).drew
  replace K := Lib.hid (K.out.trans (hy.mono K.out.size))
  replace HG := Lib.hid (HG.out.below hy)
  replace P := Lib.hid (P.out.below hy P.out.lt)
  replace RR := Lib.hid (RR.out.below hy RR.out.lt)
  replace C := Lib.hid (C.out.below hy C.out.lt)
  clear hy
  generalize V2.drew = Y5h0 at *
  refine tkA 0 (?_) ?_ C.out ?_
  rotate_left
  · (intro w1 hS; go_simp; try with_reducible rfl)
  simp only [Act.put, tS1, tS2, tS3]
  refine tkA 1 (?_) ?_ C.out ?_
  rotate_left
  · (intro w1 hS; go_simp; try with_reducible rfl)
  simp only [Act.put, tS1, tS2, tS3]
  refine tkA 2 (?_) ?_ C.out ?_
  rotate_left
  · (intro w1 hS; go_simp; try with_reducible rfl)
  simp only [Act.put, tS1, tS2, tS3]
  refine tkA 3 (.agg zc) ?_ C.out ?_
  · (intro w1 hS; exact exec_load 46 (.tmp 16) rfl _ rfl _ (LD.out w1 hS))
  simp only [Act.put, tS1, tS2, tS3]
  refine tkA 4 (?_) ?_ C.out ?_
  rotate_left
  · (intro w1 hS; go_simp; try with_reducible rfl)
  simp only [Act.put, tS1, tS2, tS3]
  refine tkA 5 (?_) ?_ C.out ?_
  rotate_left
  · (intro w1 hS; go_simp; try with_reducible rfl)
  simp only [Act.put, tS1, tS2, tS3]
  refine tkA 6 (?_) ?_ C.out ?_
  rotate_left
  · (intro w1 hS; go_simp; try with_reducible rfl)
  simp only [Act.put, tS1, tS2, tS3]
  refine tkA 7 (?_) ?_ C.out ?_
  rotate_left
  · (intro w1 hS; have hS0 := hS; have q : w1.cell? ⟨B + 2 + s, i * 3, none⟩ = some (.bool false) := (hS0.cell (i * 3)).trans GE0.out; clear hS hS0; go_simp; try with_reducible rfl)
  simp only [Act.put, tS1, tS2, tS3]
  refine tkO 8 (fun KK hK => ?_)
  rw [if_pos (by rfl)]
  have hl := HG.out.lt
  have hKs := K.out.size
  refine wp_blk_store 46 (.tmp 4) (.tmp 17) rfl zc rfl rfl RR.out rfl RI.out (HZC.out ▸ one46) ?_
  intro Y5h1 hA hF hB
  replace K := Lib.hid (K.out.trans (hB _ hR1))
  have HCK : Hid (Blk Y5h1 (B + 2 + s) 83 (rowC encA c (s * sz) sz).toArray) := (hF _ (by omega)).trans C.out
  replace C := HCK
  replace RR := Lib.hid hA
  clear HG hA hF hB HCK hl hKs
  refine hK.out _ _ C.out (fun _ => ?_)
  clear hK KK
  try simp only [Act.put]
  refine tkA 9 (?_) ?_ C.out ?_
  rotate_left
  · (intro w1 hS; go_simp; try with_reducible rfl)
  simp only [Act.put, tS1, tS2, tS3]
  refine wpAnyH_done (by kernel_rfl) ?_ _
  go_wp2
  exact bodyPost_ret (results_cell_tmp 4 46 5 gR _ Try.results22 rfl (run_blk_load (P := Try.prog) 46 gR _ RR.out Try.underlying46 rfl RI.out)) rfl ⟨rfl, K.out⟩
end Go.Proofs.Ytimnmdeiiahakaa
