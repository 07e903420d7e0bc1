/- grid's Get and Free of a place that there is, of each kind; all of them of whatever place. -/
import Derived.Test.YtimnmdeiiahakaaS19d
import Derived.Test.YtimnmdeiiahakaaHL
import Derived.Deep.CutBlock
import Derived.Deep.DeepCutAuto
import Derived.LoopTactic
import Derived.Handy
namespace Go.Proofs.Ytimnmdeiiahakaa
open Go.RowKit Go.Lib

set_option maxRecDepth 100000 in
set_option maxHeartbeats 4000000 in
theorem freeI_in (B st sz : Nat) (c : Nat → Option Int) (s i : Nat) (hs : s < st) (hi : i < sz) (u : Int) (hc : c (s * sz + i) = some u) (w : World) (h : GdI B st sz c w) :
    Calls Try.prog 11 #[.pointer (some ⟨B + 1, 0, none⟩), .agg (plA s i)] w fun e w' => e = .returned (.bool true) ∧ GdI B st sz (putC c (s * sz + i) none) w' ∧ Apart B (2 + st) w w' := by
  have K := Lib.hid (Below.refl w.heap.size w)
  have HG := Lib.hid h
  have CC := Lib.hid (fun W h => cellI_yes B st sz c s i hs hi W h)
  have qm : i * 2 < sz * 2 := by omega
  have hst := h.s2
  have hsz := h.z2
  have hlt := h.lt
  clear h
  have PI := Lib.hid (plA_i (s : Int) (i : Int))
  generalize plA (s : Int) (i : Int) = pc at *
  have hq := eqcI_some ⟨B + 2 + s, i * 2, none⟩
  have HCC := Lib.hid hc
  clear hc
  go_enter Try.func11, Try.ntmps11
  have hal := (Below.refl w.heap.size w).alloc (Nat.le_refl _) (.cells pc 30)
  replace K := Lib.hid (K.out.trans (hal.mono K.out.size))
  replace HG := Lib.hid (HG.out.below hal)
  have P := Lib.hid (Blk.new w 30 pc)
  clear hal
  have L11 : (loadVar 30 ⟨w.heap.size, 0, none⟩).run Try.prog (w.alloc (.cells pc 30)) = .ok (.agg pc) (w.alloc (.cells pc 30)) := run_blk_load (P := Try.prog) 30 (w.heap.size) _ P.out Try.underlying30 rfl PI.out
  replace L11 := Lib.hid L11
  go_wp2_with (((with_reducible refine wpList_load_want (op := ⟨some 7, .load 30 (.tmp 3), _, _, _, _⟩) ?wg11 30 (.tmp 3) ?wo11 ⟨w.heap.size, 0, none⟩ ?wx11 (.agg pc) L11.out ?_); (case wg11 => rfl); (case wo11 => rfl); (case wx11 => rfl)))
  clear L11
  have hzV1 : Hid ((w.alloc (.cells pc 30)).heap.size = w.heap.size + 1) := by show _ = _; simp only [World.size_alloc]
  generalize (w.alloc (.cells pc 30)) = V1 at *
  refine (CC.out V1 HG.out).mono ?_
  rintro e V2 ⟨rfl, hy⟩
  replace K := Lib.hid (K.out.trans (hy.mono K.out.size))
  replace HG := Lib.hid (HG.out.below hy)
  replace P := Lib.hid (P.out.below hy P.out.lt)
  clear hy
  have G := Lib.hid HG.out.G
  have C := Lib.hid (HG.out.C s hs)
  obtain ⟨k, hk⟩ : ∃ k, k = s * sz + i := ⟨_, rfl⟩
  have HNK := Lib.hid (show k < st * sz from hk ▸ num_lt hs hi)
  have HSZ := Lib.hid (sz_le hst hsz)
  have HLN := Lib.hid (itF_len c 0 (st * sz))
  have c0 : V2.cell? ⟨B + 2 + s, i * 2, none⟩ = (encI (c (s * sz + i)))[0]? := HG.out.cellAt 2 encI_len s i 0 hs hi (by omega)
  have d1 := HG.out.cellAt 2 encI_len s i 1 hs hi (by omega)
  rw [← hk] at c0 d1
  have hc : c k = some u := by rw [hk]; exact HCC.out
  replace c0 : V2.cell? ⟨B + 2 + s, i * 2, none⟩ = some (.bool true) := c0.trans (by rw [hc]; rfl)
  have HNN := Lib.hid (len_free c (st * sz) k HNK.out u hc)
  obtain ⟨nn, hnn⟩ : ∃ nn, nn = (itF (putC c k none) 0 (st * sz)).length := ⟨_, rfl⟩
  have HN2 := Lib.hid hnn
  rw [← hnn] at HNN
  obtain ⟨g0, g1⟩ := grC_get B st (itF c 0 (st * sz)).length
  have G1 := Lib.hid g1
  have GS1 := Lib.hid (grC_set B st (itF c 0 (st * sz)).length nn)
  have RP := Lib.hid (rowC_put encI 2 encI_len (by decide) c (s * sz) sz i hi none)
  have RL := Lib.hid (show i * 2 + (encI none).toArray.size ≤ (rowC encI c (s * sz) sz).toArray.size by rw [List.size_toArray, List.size_toArray, rowC_len encI 2 encI_len, encI_len]; omega)
  have hn0 := HLN.out
  have hn1 := HSZ.out
  have hn2 := HNN.out
  have HKK := Lib.hid hk
  clear g0 g1 hnn hk hc
  generalize (itF c 0 (st * sz)).length = n at *
  have w1 : IntKind.i64.wrap ((n : Int) - 1) = (nn : Int) := by rw [IntKind.wrap_i64]; omega
  clear hn0 hn1 hn2
  have k1 := (G.out.cell 1).trans G1.out
  have k2 := G.out.frozen 1
  have C2 := Lib.hid (C.out.far (p := ⟨B + 1, 1, none⟩) (by show B + 2 + s ≠ B + 1; omega) (.int .i64 (nn : Int)))
  have G2 := Lib.hid (G.out.set_ 1 (.int .i64 (nn : Int)))
  rw [GS1.out] at G2
  have HF1 : Hid (SameBut (B + 1) V2 (V2.setCell ⟨B + 1, 1, none⟩ (.int .i64 (nn : Int)))) := fun k hk => Below.heap_setCell _ _ _ k hk
  have HB1 : Hid (V2.grownBy (V2.setCell ⟨B + 1, 1, none⟩ (.int .i64 (nn : Int))) (some (B + 1))) := gb_cell _ _ _ _
  clear G C
  have CA := Lib.hid (show (encI none).toArray.all (·.oneCell') = true from by simp [encI]; first | done | exact ⟨rfl, rfl⟩ | exact ⟨rfl, rfl, rfl⟩)
  have HBU := Lib.hid (builtI0)
  obtain ⟨xc, hxc⟩ : ∃ x, x = (encI none).toArray := ⟨_, rfl⟩
  rw [← hxc] at HBU RL CA
  have HXC := Lib.hid hxc
  have XZ : Hid ((Try.prog.info? 72).map (·.size) = some xc.size) := by rw [hxc]; exact i72
  clear hxc
  go_wp2_with (first | ((with_reducible refine wpList_built2 (op := ⟨some 26, .build 72 #[], _, _, _, _⟩) ?wg1 72 #[] ?wo1 #[] ?wv1 xc ?wf1 ?_); (case wg1 => rfl); (case wo1 => rfl); (case wv1 => kernel_rfl); (case wf1 => exact HBU.out)) | ((with_reducible refine wpList_part_store (op := ⟨none, .store 72 (.tmp 27) (.tmp 26), _, _, _, _⟩) ?pg1 72 (.tmp 27) (.tmp 26) ?po1 (i * 2) xc ?px1 ?py1 C2.out RL.out XZ.out CA.out ?_); (case pg1 => rfl); (case po1 => rfl); (case px1 => rfl); (case py1 => rfl)))
  intro Vz hA hF hB
  rw [HXC.out, List.toList_toArray, RP.out, ← HKK.out] at hA
  have HA := Lib.hid hA
  have HF2 : Hid (∀ j, j < V2.heap.size → j ≠ B + 1 → j ≠ B + 2 + s → Vz.heap[j]? = V2.heap[j]?) := fun j h0 h1 h2 => (hF j h2).trans (HF1.out j h1)
  have HB2 := Lib.hid (hB 0 (Nat.zero_le _))
  have hbs := (hB 0 (Nat.zero_le _))
  have hG2 : Blk Vz (B + 1) 67 (grC B st nn) := (hF _ (by omega)).trans G2.out
  have HP := Lib.hid (HG.out.put s i hi none nn (by rw [← HKK.out]; exact HN2.out.symm) hG2 (by rw [← HKK.out]; exact HA.out) HF2.out)
  have HAP : Hid (Apart B (2 + st) w Vz) := (Apart.of_below K.out).trans ((Apart.of_grown HB1.out (by omega) (by omega)).trans ⟨hbs.os, hbs.tape, hbs.output, hbs.size, fun j h1 h2 => hF j (by omega)⟩)
  clear hA hF hB hG2 HA HF2 HB2 hbs C2 G2 HF1 HB1
  go_wp2
  go_ret
  exact ⟨rfl, HP.out, HAP.out⟩
set_option maxRecDepth 100000 in
set_option maxHeartbeats 4000000 in
theorem freeI_none (B st sz : Nat) (c : Nat → Option Int) (s i : Nat) (hs : s < st) (hi : i < sz) (hc : c (s * sz + i) = none) (w : World) (h : GdI B st sz c w) :
    Calls Try.prog 11 #[.pointer (some ⟨B + 1, 0, none⟩), .agg (plA s i)] w fun e w' => e = .returned (.bool false) ∧ Below w.heap.size w w' := by
  have K := Lib.hid (Below.refl w.heap.size w)
  have HG := Lib.hid h
  have CC := Lib.hid (fun W h => cellI_yes B st sz c s i hs hi W h)
  have qm : i * 2 < sz * 2 := by omega
  have hst := h.s2
  have hsz := h.z2
  have hlt := h.lt
  clear h
  have PI := Lib.hid (plA_i (s : Int) (i : Int))
  generalize plA (s : Int) (i : Int) = pc at *
  have hq := eqcI_some ⟨B + 2 + s, i * 2, none⟩
  have HCC := Lib.hid hc
  clear hc
  go_enter Try.func11, Try.ntmps11
  have hal := (Below.refl w.heap.size w).alloc (Nat.le_refl _) (.cells pc 30)
  replace K := Lib.hid (K.out.trans (hal.mono K.out.size))
  replace HG := Lib.hid (HG.out.below hal)
  have P := Lib.hid (Blk.new w 30 pc)
  clear hal
  have L12 : (loadVar 30 ⟨w.heap.size, 0, none⟩).run Try.prog (w.alloc (.cells pc 30)) = .ok (.agg pc) (w.alloc (.cells pc 30)) := run_blk_load (P := Try.prog) 30 (w.heap.size) _ P.out Try.underlying30 rfl PI.out
  replace L12 := Lib.hid L12
  go_wp2_with (((with_reducible refine wpList_load_want (op := ⟨some 7, .load 30 (.tmp 3), _, _, _, _⟩) ?wg12 30 (.tmp 3) ?wo12 ⟨w.heap.size, 0, none⟩ ?wx12 (.agg pc) L12.out ?_); (case wg12 => rfl); (case wo12 => rfl); (case wx12 => rfl)))
  clear L12
  have hzV1 : Hid ((w.alloc (.cells pc 30)).heap.size = w.heap.size + 1) := by show _ = _; simp only [World.size_alloc]
  generalize (w.alloc (.cells pc 30)) = V1 at *
  refine (CC.out V1 HG.out).mono ?_
  rintro e V2 ⟨rfl, hy⟩
  replace K := Lib.hid (K.out.trans (hy.mono K.out.size))
  replace HG := Lib.hid (HG.out.below hy)
  replace P := Lib.hid (P.out.below hy P.out.lt)
  clear hy
  have c0 : V2.cell? ⟨B + 2 + s, i * 2, none⟩ = some (.bool false) := (HG.out.cellAt 2 encI_len s i 0 hs hi (by omega)).trans (by rw [HCC.out]; rfl)
  go_wp2
  go_ret
  exact ⟨rfl, K.out⟩
set_option maxRecDepth 100000 in
set_option maxHeartbeats 4000000 in
theorem getI_in (B st sz : Nat) (c : Nat → Option Int) (s i : Nat) (hs : s < st) (hi : i < sz) (w : World) (h : GdI B st sz c w) :
    Calls Try.prog 12 #[.pointer (some ⟨B + 1, 0, none⟩), .agg (plA s i)] w fun e w' => e = .returned (.tuple #[.int .i64 ((c (s * sz + i)).getD 0), .bool (c (s * sz + i)).isSome]) ∧ Below w.heap.size w w' := by
  have K := Lib.hid (Below.refl w.heap.size w)
  have HG := Lib.hid h
  have CC := Lib.hid (fun W h => cellI_yes B st sz c s i hs hi W h)
  have qm : i * 2 < sz * 2 := by omega
  have hst := h.s2
  have hsz := h.z2
  have hlt := h.lt
  clear h
  have PI := Lib.hid (plA_i (s : Int) (i : Int))
  generalize plA (s : Int) (i : Int) = pc at *
  have hq := eqcI_some ⟨B + 2 + s, i * 2, none⟩
  obtain ⟨o, ho⟩ : ∃ o, o = c (s * sz + i) := ⟨_, rfl⟩
  rw [← ho]
  have HOO := Lib.hid ho
  clear ho
  go_enter Try.func12, Try.ntmps12
  have hal := (Below.refl w.heap.size w).alloc (Nat.le_refl _) (.cells pc 30)
  replace K := Lib.hid (K.out.trans (hal.mono K.out.size))
  replace HG := Lib.hid (HG.out.below hal)
  have P := Lib.hid (Blk.new w 30 pc)
  clear hal
  have L13 : (loadVar 30 ⟨w.heap.size, 0, none⟩).run Try.prog (w.alloc (.cells pc 30)) = .ok (.agg pc) (w.alloc (.cells pc 30)) := run_blk_load (P := Try.prog) 30 (w.heap.size) _ P.out Try.underlying30 rfl PI.out
  replace L13 := Lib.hid L13
  go_wp2_with (((with_reducible refine wpList_load_want (op := ⟨some 9, .load 30 (.tmp 3), _, _, _, _⟩) ?wg13 30 (.tmp 3) ?wo13 ⟨w.heap.size, 0, none⟩ ?wx13 (.agg pc) L13.out ?_); (case wg13 => rfl); (case wo13 => rfl); (case wx13 => rfl)))
  clear L13
  have hzV1 : Hid ((w.alloc (.cells pc 30)).heap.size = w.heap.size + 1) := by show _ = _; simp only [World.size_alloc]
  generalize (w.alloc (.cells pc 30)) = V1 at *
  refine (CC.out V1 HG.out).mono ?_
  rintro e V2 ⟨rfl, hy⟩
  replace K := Lib.hid (K.out.trans (hy.mono K.out.size))
  replace HG := Lib.hid (HG.out.below hy)
  replace P := Lib.hid (P.out.below hy P.out.lt)
  clear hy
  have C := Lib.hid (HG.out.C s hs)
  have GC := Lib.hid (fun j (hj : j < 2) => (rowC_get encI 2 encI_len c (s * sz) sz i j hi hj))
  have GE0 : Hid ((rowC encI c (s * sz) sz).toArray[i * 2]? = some (.bool o.isSome)) := by
    show (rowC encI c (s * sz) sz).toArray[i * 2]? = _
    rw [List.getElem?_toArray]
    refine (GC.out 0 (by omega)).trans ?_
    rw [← HOO.out]
    cases o <;> rfl
  have GE1 : Hid ((rowC encI c (s * sz) sz).toArray[i * 2 + 1]? = some (.int .i64 (o.getD 0))) := by
    show (rowC encI c (s * sz) sz).toArray[i * 2 + 1]? = _
    rw [List.getElem?_toArray]
    refine (GC.out 1 (by omega)).trans ?_
    rw [← HOO.out]
    cases o <;> rfl
  clear GC
  go_wp2_with fail
  refine wp_region_held (S := (fun w' : World => Below (V2.heap.size) V2 w')) (by kernel_rfl) ?_
  change wpAnyH _ _ _ _ _ _ _ _ V2.drew
  have hy : Below V2.heap.size V2 V2.drew := (Below.refl _ _).drew
  have hE0 : Below (V2.heap.size) V2 V2.drew := (Below.refl _ _).drew
  clear hy
  generalize V2.drew = Y5x0 at hE0  ⊢
  have E0 := Lib.hid hE0
  clear hE0
  refine tkA 0 (?_) ?_ E0.out ?_
  rotate_left
  · (intro w1 hS; go_simp; try with_reducible rfl)
  simp only [Act.put, tS1, tS2, tS3]
  refine tkA 1 (?_) ?_ E0.out ?_
  rotate_left
  · (intro w1 hS; go_simp; try with_reducible rfl)
  simp only [Act.put, tS1, tS2, tS3]
  refine tkA 2 (?_) ?_ E0.out ?_
  rotate_left
  · (intro w1 hS; go_simp; try with_reducible rfl)
  simp only [Act.put, tS1, tS2, tS3]
  refine tkA 3 (?_) ?_ E0.out ?_
  rotate_left
  · (intro w1 hS; have hW := hS; have q := ((C.out.below hW C.out.lt).cell (i * 2 + 1)).trans GE1.out; clear hW hS; go_simp; try with_reducible rfl)
  simp only [Act.put, tS1, tS2, tS3]
  refine tkA 8 (?_) ?_ E0.out ?_
  rotate_left
  · (intro w1 hS; go_simp; try with_reducible rfl)
  simp only [Act.put, tS1, tS2, tS3]
  refine tkA 4 (?_) ?_ E0.out ?_
  rotate_left
  · (intro w1 hS; go_simp; try with_reducible rfl)
  simp only [Act.put, tS1, tS2, tS3]
  refine tkA 5 (?_) ?_ E0.out ?_
  rotate_left
  · (intro w1 hS; go_simp; try with_reducible rfl)
  simp only [Act.put, tS1, tS2, tS3]
  refine tkA 6 (?_) ?_ E0.out ?_
  rotate_left
  · (intro w1 hS; go_simp; try with_reducible rfl)
  simp only [Act.put, tS1, tS2, tS3]
  refine tkA 7 (?_) ?_ E0.out ?_
  rotate_left
  · (intro w1 hS; have hW := hS; have q := ((C.out.below hW C.out.lt).cell (i * 2)).trans GE0.out; clear hW hS; go_simp; try with_reducible rfl)
  simp only [Act.put, tS1, tS2, tS3]
  refine tkA 9 (?_) ?_ E0.out ?_
  rotate_left
  · (intro w1 hS; go_simp; try with_reducible rfl)
  simp only [Act.put, tS1, tS2, tS3]
  refine wpAnyH_done (by kernel_rfl) ?_ _
  have hy := E0.out
  replace K := Lib.hid (K.out.trans (hy.mono K.out.size))
  replace HG := Lib.hid (HG.out.below hy)
  replace P := Lib.hid (P.out.below hy P.out.lt)
  replace C := Lib.hid (C.out.below hy C.out.lt)
  clear hy E0
  go_wp2
  go_ret2
  exact ⟨rfl, K.out⟩
set_option maxRecDepth 100000 in
set_option maxHeartbeats 4000000 in
theorem freeA_in (B st sz : Nat) (c : Nat → Option (Int × Int)) (s i : Nat) (hs : s < st) (hi : i < sz) (u : (Int × Int)) (hc : c (s * sz + i) = some u) (w : World) (h : GdA B st sz c w) :
    Calls Try.prog 21 #[.pointer (some ⟨B + 1, 0, none⟩), .agg (plA s i)] w fun e w' => e = .returned (.bool true) ∧ GdA B st sz (putC c (s * sz + i) none) w' ∧ Apart B (2 + st) w w' := by
  have K := Lib.hid (Below.refl w.heap.size w)
  have HG := Lib.hid h
  have CC := Lib.hid (fun W h => cellA_yes B st sz c s i hs hi W h)
  have qm : i * 3 < sz * 3 := by omega
  have hst := h.s2
  have hsz := h.z2
  have hlt := h.lt
  clear h
  have PI := Lib.hid (plA_i (s : Int) (i : Int))
  generalize plA (s : Int) (i : Int) = pc at *
  have hq := eqcA_some ⟨B + 2 + s, i * 3, none⟩
  have HCC := Lib.hid hc
  clear hc
  go_enter Try.func21, Try.ntmps21
  have hal := (Below.refl w.heap.size w).alloc (Nat.le_refl _) (.cells pc 30)
  replace K := Lib.hid (K.out.trans (hal.mono K.out.size))
  replace HG := Lib.hid (HG.out.below hal)
  have P := Lib.hid (Blk.new w 30 pc)
  clear hal
  have L14 : (loadVar 30 ⟨w.heap.size, 0, none⟩).run Try.prog (w.alloc (.cells pc 30)) = .ok (.agg pc) (w.alloc (.cells pc 30)) := run_blk_load (P := Try.prog) 30 (w.heap.size) _ P.out Try.underlying30 rfl PI.out
  replace L14 := Lib.hid L14
  go_wp2_with (((with_reducible refine wpList_load_want (op := ⟨some 7, .load 30 (.tmp 3), _, _, _, _⟩) ?wg14 30 (.tmp 3) ?wo14 ⟨w.heap.size, 0, none⟩ ?wx14 (.agg pc) L14.out ?_); (case wg14 => rfl); (case wo14 => rfl); (case wx14 => rfl)))
  clear L14
  have hzV1 : Hid ((w.alloc (.cells pc 30)).heap.size = w.heap.size + 1) := by show _ = _; simp only [World.size_alloc]
  generalize (w.alloc (.cells pc 30)) = V1 at *
  refine (CC.out V1 HG.out).mono ?_
  rintro e V2 ⟨rfl, hy⟩
  replace K := Lib.hid (K.out.trans (hy.mono K.out.size))
  replace HG := Lib.hid (HG.out.below hy)
  replace P := Lib.hid (P.out.below hy P.out.lt)
  clear hy
  have G := Lib.hid HG.out.G
  have C := Lib.hid (HG.out.C s hs)
  obtain ⟨k, hk⟩ : ∃ k, k = s * sz + i := ⟨_, rfl⟩
  have HNK := Lib.hid (show k < st * sz from hk ▸ num_lt hs hi)
  have HSZ := Lib.hid (sz_le hst hsz)
  have HLN := Lib.hid (itF_len c 0 (st * sz))
  have c0 : V2.cell? ⟨B + 2 + s, i * 3, none⟩ = (encA (c (s * sz + i)))[0]? := HG.out.cellAt 3 encA_len s i 0 hs hi (by omega)
  have d1 := HG.out.cellAt 3 encA_len s i 1 hs hi (by omega)
  have d2 := HG.out.cellAt 3 encA_len s i 2 hs hi (by omega)
  rw [← hk] at c0 d1 d2
  have hc : c k = some u := by rw [hk]; exact HCC.out
  replace c0 : V2.cell? ⟨B + 2 + s, i * 3, none⟩ = some (.bool true) := c0.trans (by rw [hc]; rfl)
  have HNN := Lib.hid (len_free c (st * sz) k HNK.out u hc)
  obtain ⟨nn, hnn⟩ : ∃ nn, nn = (itF (putC c k none) 0 (st * sz)).length := ⟨_, rfl⟩
  have HN2 := Lib.hid hnn
  rw [← hnn] at HNN
  obtain ⟨g0, g1⟩ := grC_get B st (itF c 0 (st * sz)).length
  have G1 := Lib.hid g1
  have GS1 := Lib.hid (grC_set B st (itF c 0 (st * sz)).length nn)
  have RP := Lib.hid (rowC_put encA 3 encA_len (by decide) c (s * sz) sz i hi none)
  have RL := Lib.hid (show i * 3 + (encA none).toArray.size ≤ (rowC encA c (s * sz) sz).toArray.size by rw [List.size_toArray, List.size_toArray, rowC_len encA 3 encA_len, encA_len]; omega)
  have hn0 := HLN.out
  have hn1 := HSZ.out
  have hn2 := HNN.out
  have HKK := Lib.hid hk
  clear g0 g1 hnn hk hc
  generalize (itF c 0 (st * sz)).length = n at *
  have w1 : IntKind.i64.wrap ((n : Int) - 1) = (nn : Int) := by rw [IntKind.wrap_i64]; omega
  clear hn0 hn1 hn2
  have k1 := (G.out.cell 1).trans G1.out
  have k2 := G.out.frozen 1
  have C2 := Lib.hid (C.out.far (p := ⟨B + 1, 1, none⟩) (by show B + 2 + s ≠ B + 1; omega) (.int .i64 (nn : Int)))
  have G2 := Lib.hid (G.out.set_ 1 (.int .i64 (nn : Int)))
  rw [GS1.out] at G2
  have HF1 : Hid (SameBut (B + 1) V2 (V2.setCell ⟨B + 1, 1, none⟩ (.int .i64 (nn : Int)))) := fun k hk => Below.heap_setCell _ _ _ k hk
  have HB1 : Hid (V2.grownBy (V2.setCell ⟨B + 1, 1, none⟩ (.int .i64 (nn : Int))) (some (B + 1))) := gb_cell _ _ _ _
  clear G C
  have CA := Lib.hid (show (encA none).toArray.all (·.oneCell') = true from by simp [encA]; first | done | exact ⟨rfl, rfl⟩ | exact ⟨rfl, rfl, rfl⟩)
  have HBU := Lib.hid (builtA0)
  obtain ⟨xc, hxc⟩ : ∃ x, x = (encA none).toArray := ⟨_, rfl⟩
  rw [← hxc] at HBU RL CA
  have HXC := Lib.hid hxc
  have XZ : Hid ((Try.prog.info? 83).map (·.size) = some xc.size) := by rw [hxc]; exact i83
  clear hxc
  go_wp2_with (first | ((with_reducible refine wpList_built2 (op := ⟨some 26, .build 83 #[], _, _, _, _⟩) ?wg1 83 #[] ?wo1 #[] ?wv1 xc ?wf1 ?_); (case wg1 => rfl); (case wo1 => rfl); (case wv1 => kernel_rfl); (case wf1 => exact HBU.out)) | ((with_reducible refine wpList_part_store (op := ⟨none, .store 83 (.tmp 27) (.tmp 26), _, _, _, _⟩) ?pg1 83 (.tmp 27) (.tmp 26) ?po1 (i * 3) xc ?px1 ?py1 C2.out RL.out XZ.out CA.out ?_); (case pg1 => rfl); (case po1 => rfl); (case px1 => rfl); (case py1 => rfl)))
  intro Vz hA hF hB
  rw [HXC.out, List.toList_toArray, RP.out, ← HKK.out] at hA
  have HA := Lib.hid hA
  have HF2 : Hid (∀ j, j < V2.heap.size → j ≠ B + 1 → j ≠ B + 2 + s → Vz.heap[j]? = V2.heap[j]?) := fun j h0 h1 h2 => (hF j h2).trans (HF1.out j h1)
  have HB2 := Lib.hid (hB 0 (Nat.zero_le _))
  have hbs := (hB 0 (Nat.zero_le _))
  have hG2 : Blk Vz (B + 1) 78 (grC B st nn) := (hF _ (by omega)).trans G2.out
  have HP := Lib.hid (HG.out.put s i hi none nn (by rw [← HKK.out]; exact HN2.out.symm) hG2 (by rw [← HKK.out]; exact HA.out) HF2.out)
  have HAP : Hid (Apart B (2 + st) w Vz) := (Apart.of_below K.out).trans ((Apart.of_grown HB1.out (by omega) (by omega)).trans ⟨hbs.os, hbs.tape, hbs.output, hbs.size, fun j h1 h2 => hF j (by omega)⟩)
  clear hA hF hB hG2 HA HF2 HB2 hbs C2 G2 HF1 HB1
  go_wp2
  go_ret
  exact ⟨rfl, HP.out, HAP.out⟩
set_option maxRecDepth 100000 in
set_option maxHeartbeats 4000000 in
theorem freeS_in (B st sz : Nat) (c : Nat → Option ByteArray) (s i : Nat) (hs : s < st) (hi : i < sz) (u : ByteArray) (hc : c (s * sz + i) = some u) (w : World) (h : GdS B st sz c w) :
    Calls Try.prog 26 #[.pointer (some ⟨B + 1, 0, none⟩), .agg (plA s i)] w fun e w' => e = .returned (.bool true) ∧ GdS B st sz (putC c (s * sz + i) none) w' ∧ Apart B (2 + st) w w' := by
  have K := Lib.hid (Below.refl w.heap.size w)
  have HG := Lib.hid h
  have CC := Lib.hid (fun W h => cellS_yes B st sz c s i hs hi W h)
  have qm : i * 2 < sz * 2 := by omega
  have hst := h.s2
  have hsz := h.z2
  have hlt := h.lt
  clear h
  have PI := Lib.hid (plA_i (s : Int) (i : Int))
  generalize plA (s : Int) (i : Int) = pc at *
  have hq := eqcS_some ⟨B + 2 + s, i * 2, none⟩
  have HCC := Lib.hid hc
  clear hc
  go_enter Try.func26, Try.ntmps26
  have hal := (Below.refl w.heap.size w).alloc (Nat.le_refl _) (.cells pc 30)
  replace K := Lib.hid (K.out.trans (hal.mono K.out.size))
  replace HG := Lib.hid (HG.out.below hal)
  have P := Lib.hid (Blk.new w 30 pc)
  clear hal
  have L15 : (loadVar 30 ⟨w.heap.size, 0, none⟩).run Try.prog (w.alloc (.cells pc 30)) = .ok (.agg pc) (w.alloc (.cells pc 30)) := run_blk_load (P := Try.prog) 30 (w.heap.size) _ P.out Try.underlying30 rfl PI.out
  replace L15 := Lib.hid L15
  go_wp2_with (((with_reducible refine wpList_load_want (op := ⟨some 7, .load 30 (.tmp 3), _, _, _, _⟩) ?wg15 30 (.tmp 3) ?wo15 ⟨w.heap.size, 0, none⟩ ?wx15 (.agg pc) L15.out ?_); (case wg15 => rfl); (case wo15 => rfl); (case wx15 => rfl)))
  clear L15
  have hzV1 : Hid ((w.alloc (.cells pc 30)).heap.size = w.heap.size + 1) := by show _ = _; simp only [World.size_alloc]
  generalize (w.alloc (.cells pc 30)) = V1 at *
  refine (CC.out V1 HG.out).mono ?_
  rintro e V2 ⟨rfl, hy⟩
  replace K := Lib.hid (K.out.trans (hy.mono K.out.size))
  replace HG := Lib.hid (HG.out.below hy)
  replace P := Lib.hid (P.out.below hy P.out.lt)
  clear hy
  have G := Lib.hid HG.out.G
  have C := Lib.hid (HG.out.C s hs)
  obtain ⟨k, hk⟩ : ∃ k, k = s * sz + i := ⟨_, rfl⟩
  have HNK := Lib.hid (show k < st * sz from hk ▸ num_lt hs hi)
  have HSZ := Lib.hid (sz_le hst hsz)
  have HLN := Lib.hid (itF_len c 0 (st * sz))
  have c0 : V2.cell? ⟨B + 2 + s, i * 2, none⟩ = (encS (c (s * sz + i)))[0]? := HG.out.cellAt 2 encS_len s i 0 hs hi (by omega)
  have d1 := HG.out.cellAt 2 encS_len s i 1 hs hi (by omega)
  rw [← hk] at c0 d1
  have hc : c k = some u := by rw [hk]; exact HCC.out
  replace c0 : V2.cell? ⟨B + 2 + s, i * 2, none⟩ = some (.bool true) := c0.trans (by rw [hc]; rfl)
  have HNN := Lib.hid (len_free c (st * sz) k HNK.out u hc)
  obtain ⟨nn, hnn⟩ : ∃ nn, nn = (itF (putC c k none) 0 (st * sz)).length := ⟨_, rfl⟩
  have HN2 := Lib.hid hnn
  rw [← hnn] at HNN
  obtain ⟨g0, g1⟩ := grC_get B st (itF c 0 (st * sz)).length
  have G1 := Lib.hid g1
  have GS1 := Lib.hid (grC_set B st (itF c 0 (st * sz)).length nn)
  have RP := Lib.hid (rowC_put encS 2 encS_len (by decide) c (s * sz) sz i hi none)
  have RL := Lib.hid (show i * 2 + (encS none).toArray.size ≤ (rowC encS c (s * sz) sz).toArray.size by rw [List.size_toArray, List.size_toArray, rowC_len encS 2 encS_len, encS_len]; omega)
  have hn0 := HLN.out
  have hn1 := HSZ.out
  have hn2 := HNN.out
  have HKK := Lib.hid hk
  clear g0 g1 hnn hk hc
  generalize (itF c 0 (st * sz)).length = n at *
  have w1 : IntKind.i64.wrap ((n : Int) - 1) = (nn : Int) := by rw [IntKind.wrap_i64]; omega
  clear hn0 hn1 hn2
  have k1 := (G.out.cell 1).trans G1.out
  have k2 := G.out.frozen 1
  have C2 := Lib.hid (C.out.far (p := ⟨B + 1, 1, none⟩) (by show B + 2 + s ≠ B + 1; omega) (.int .i64 (nn : Int)))
  have G2 := Lib.hid (G.out.set_ 1 (.int .i64 (nn : Int)))
  rw [GS1.out] at G2
  have HF1 : Hid (SameBut (B + 1) V2 (V2.setCell ⟨B + 1, 1, none⟩ (.int .i64 (nn : Int)))) := fun k hk => Below.heap_setCell _ _ _ k hk
  have HB1 : Hid (V2.grownBy (V2.setCell ⟨B + 1, 1, none⟩ (.int .i64 (nn : Int))) (some (B + 1))) := gb_cell _ _ _ _
  clear G C
  have CA := Lib.hid (show (encS none).toArray.all (·.oneCell') = true from by simp [encS]; first | done | exact ⟨rfl, rfl⟩ | exact ⟨rfl, rfl, rfl⟩)
  have HBU := Lib.hid (builtS0)
  obtain ⟨xc, hxc⟩ : ∃ x, x = (encS none).toArray := ⟨_, rfl⟩
  rw [← hxc] at HBU RL CA
  have HXC := Lib.hid hxc
  have XZ : Hid ((Try.prog.info? 91).map (·.size) = some xc.size) := by rw [hxc]; exact i91
  clear hxc
  go_wp2_with (first | ((with_reducible refine wpList_built2 (op := ⟨some 26, .build 91 #[], _, _, _, _⟩) ?wg1 91 #[] ?wo1 #[] ?wv1 xc ?wf1 ?_); (case wg1 => rfl); (case wo1 => rfl); (case wv1 => kernel_rfl); (case wf1 => exact HBU.out)) | ((with_reducible refine wpList_part_store (op := ⟨none, .store 91 (.tmp 27) (.tmp 26), _, _, _, _⟩) ?pg1 91 (.tmp 27) (.tmp 26) ?po1 (i * 2) xc ?px1 ?py1 C2.out RL.out XZ.out CA.out ?_); (case pg1 => rfl); (case po1 => rfl); (case px1 => rfl); (case py1 => rfl)))
  intro Vz hA hF hB
  rw [HXC.out, List.toList_toArray, RP.out, ← HKK.out] at hA
  have HA := Lib.hid hA
  have HF2 : Hid (∀ j, j < V2.heap.size → j ≠ B + 1 → j ≠ B + 2 + s → Vz.heap[j]? = V2.heap[j]?) := fun j h0 h1 h2 => (hF j h2).trans (HF1.out j h1)
  have HB2 := Lib.hid (hB 0 (Nat.zero_le _))
  have hbs := (hB 0 (Nat.zero_le _))
  have hG2 : Blk Vz (B + 1) 86 (grC B st nn) := (hF _ (by omega)).trans G2.out
  have HP := Lib.hid (HG.out.put s i hi none nn (by rw [← HKK.out]; exact HN2.out.symm) hG2 (by rw [← HKK.out]; exact HA.out) HF2.out)
  have HAP : Hid (Apart B (2 + st) w Vz) := (Apart.of_below K.out).trans ((Apart.of_grown HB1.out (by omega) (by omega)).trans ⟨hbs.os, hbs.tape, hbs.output, hbs.size, fun j h1 h2 => hF j (by omega)⟩)
  clear hA hF hB hG2 HA HF2 HB2 hbs C2 G2 HF1 HB1
  go_wp2
  go_ret
  exact ⟨rfl, HP.out, HAP.out⟩
set_option maxRecDepth 100000 in
set_option maxHeartbeats 4000000 in
theorem freeS_none (B st sz : Nat) (c : Nat → Option ByteArray) (s i : Nat) (hs : s < st) (hi : i < sz) (hc : c (s * sz + i) = none) (w : World) (h : GdS B st sz c w) :
    Calls Try.prog 26 #[.pointer (some ⟨B + 1, 0, none⟩), .agg (plA s i)] w fun e w' => e = .returned (.bool false) ∧ Below w.heap.size w w' := by
  have K := Lib.hid (Below.refl w.heap.size w)
  have HG := Lib.hid h
  have CC := Lib.hid (fun W h => cellS_yes B st sz c s i hs hi W h)
  have qm : i * 2 < sz * 2 := by omega
  have hst := h.s2
  have hsz := h.z2
  have hlt := h.lt
  clear h
  have PI := Lib.hid (plA_i (s : Int) (i : Int))
  generalize plA (s : Int) (i : Int) = pc at *
  have hq := eqcS_some ⟨B + 2 + s, i * 2, none⟩
  have HCC := Lib.hid hc
  clear hc
  go_enter Try.func26, Try.ntmps26
  have hal := (Below.refl w.heap.size w).alloc (Nat.le_refl _) (.cells pc 30)
  replace K := Lib.hid (K.out.trans (hal.mono K.out.size))
  replace HG := Lib.hid (HG.out.below hal)
  have P := Lib.hid (Blk.new w 30 pc)
  clear hal
  have L16 : (loadVar 30 ⟨w.heap.size, 0, none⟩).run Try.prog (w.alloc (.cells pc 30)) = .ok (.agg pc) (w.alloc (.cells pc 30)) := run_blk_load (P := Try.prog) 30 (w.heap.size) _ P.out Try.underlying30 rfl PI.out
  replace L16 := Lib.hid L16
  go_wp2_with (((with_reducible refine wpList_load_want (op := ⟨some 7, .load 30 (.tmp 3), _, _, _, _⟩) ?wg16 30 (.tmp 3) ?wo16 ⟨w.heap.size, 0, none⟩ ?wx16 (.agg pc) L16.out ?_); (case wg16 => rfl); (case wo16 => rfl); (case wx16 => rfl)))
  clear L16
  have hzV1 : Hid ((w.alloc (.cells pc 30)).heap.size = w.heap.size + 1) := by show _ = _; simp only [World.size_alloc]
  generalize (w.alloc (.cells pc 30)) = V1 at *
  refine (CC.out V1 HG.out).mono ?_
  rintro e V2 ⟨rfl, hy⟩
  replace K := Lib.hid (K.out.trans (hy.mono K.out.size))
  replace HG := Lib.hid (HG.out.below hy)
  replace P := Lib.hid (P.out.below hy P.out.lt)
  clear hy
  have c0 : V2.cell? ⟨B + 2 + s, i * 2, none⟩ = some (.bool false) := (HG.out.cellAt 2 encS_len s i 0 hs hi (by omega)).trans (by rw [HCC.out]; rfl)
  go_wp2
  go_ret
  exact ⟨rfl, K.out⟩
set_option maxRecDepth 100000 in
set_option maxHeartbeats 4000000 in
theorem getS_in (B st sz : Nat) (c : Nat → Option ByteArray) (s i : Nat) (hs : s < st) (hi : i < sz) (w : World) (h : GdS B st sz c w) :
    Calls Try.prog 25 #[.pointer (some ⟨B + 1, 0, none⟩), .agg (plA s i)] w fun e w' => e = .returned (.tuple #[.string ((c (s * sz + i)).getD { data := #[] }), .bool (c (s * sz + i)).isSome]) ∧ Below w.heap.size w w' := by
  have K := Lib.hid (Below.refl w.heap.size w)
  have HG := Lib.hid h
  have CC := Lib.hid (fun W h => cellS_yes B st sz c s i hs hi W h)
  have qm : i * 2 < sz * 2 := by omega
  have hst := h.s2
  have hsz := h.z2
  have hlt := h.lt
  clear h
  have PI := Lib.hid (plA_i (s : Int) (i : Int))
  generalize plA (s : Int) (i : Int) = pc at *
  have hq := eqcS_some ⟨B + 2 + s, i * 2, none⟩
  obtain ⟨o, ho⟩ : ∃ o, o = c (s * sz + i) := ⟨_, rfl⟩
  rw [← ho]
  have HOO := Lib.hid ho
  clear ho
  go_enter Try.func25, Try.ntmps25
  have hal := (Below.refl w.heap.size w).alloc (Nat.le_refl _) (.cells pc 30)
  replace K := Lib.hid (K.out.trans (hal.mono K.out.size))
  replace HG := Lib.hid (HG.out.below hal)
  have P := Lib.hid (Blk.new w 30 pc)
  clear hal
  have L17 : (loadVar 30 ⟨w.heap.size, 0, none⟩).run Try.prog (w.alloc (.cells pc 30)) = .ok (.agg pc) (w.alloc (.cells pc 30)) := run_blk_load (P := Try.prog) 30 (w.heap.size) _ P.out Try.underlying30 rfl PI.out
  replace L17 := Lib.hid L17
  go_wp2_with (((with_reducible refine wpList_load_want (op := ⟨some 9, .load 30 (.tmp 3), _, _, _, _⟩) ?wg17 30 (.tmp 3) ?wo17 ⟨w.heap.size, 0, none⟩ ?wx17 (.agg pc) L17.out ?_); (case wg17 => rfl); (case wo17 => rfl); (case wx17 => rfl)))
  clear L17
  have hzV1 : Hid ((w.alloc (.cells pc 30)).heap.size = w.heap.size + 1) := by show _ = _; simp only [World.size_alloc]
  generalize (w.alloc (.cells pc 30)) = V1 at *
  refine (CC.out V1 HG.out).mono ?_
  rintro e V2 ⟨rfl, hy⟩
  replace K := Lib.hid (K.out.trans (hy.mono K.out.size))
  replace HG := Lib.hid (HG.out.below hy)
  replace P := Lib.hid (P.out.below hy P.out.lt)
  clear hy
  have C := Lib.hid (HG.out.C s hs)
  have GC := Lib.hid (fun j (hj : j < 2) => (rowC_get encS 2 encS_len c (s * sz) sz i j hi hj))
  have GE0 : Hid ((rowC encS c (s * sz) sz).toArray[i * 2]? = some (.bool o.isSome)) := by
    show (rowC encS c (s * sz) sz).toArray[i * 2]? = _
    rw [List.getElem?_toArray]
    refine (GC.out 0 (by omega)).trans ?_
    rw [← HOO.out]
    cases o <;> rfl
  have GE1 : Hid ((rowC encS c (s * sz) sz).toArray[i * 2 + 1]? = some (.string (o.getD { data := #[] }))) := by
    show (rowC encS c (s * sz) sz).toArray[i * 2 + 1]? = _
    rw [List.getElem?_toArray]
    refine (GC.out 1 (by omega)).trans ?_
    rw [← HOO.out]
    cases o <;> rfl
  clear GC
  go_wp2_with fail
  refine wp_region_held (S := (fun w' : World => Below (V2.heap.size) V2 w')) (by kernel_rfl) ?_
  change wpAnyH _ _ _ _ _ _ _ _ V2.drew
  have hy : Below V2.heap.size V2 V2.drew := (Below.refl _ _).drew
  have hE0 : Below (V2.heap.size) V2 V2.drew := (Below.refl _ _).drew
  clear hy
  generalize V2.drew = Y5x0 at hE0  ⊢
  have E0 := Lib.hid hE0
  clear hE0
  refine tkA 0 (?_) ?_ E0.out ?_
  rotate_left
  · (intro w1 hS; go_simp; try with_reducible rfl)
  simp only [Act.put, tS1, tS2, tS3]
  refine tkA 1 (?_) ?_ E0.out ?_
  rotate_left
  · (intro w1 hS; go_simp; try with_reducible rfl)
  simp only [Act.put, tS1, tS2, tS3]
  refine tkA 2 (?_) ?_ E0.out ?_
  rotate_left
  · (intro w1 hS; go_simp; try with_reducible rfl)
  simp only [Act.put, tS1, tS2, tS3]
  refine tkA 3 (?_) ?_ E0.out ?_
  rotate_left
  · (intro w1 hS; have hW := hS; have q := ((C.out.below hW C.out.lt).cell (i * 2 + 1)).trans GE1.out; clear hW hS; go_simp; try with_reducible rfl)
  simp only [Act.put, tS1, tS2, tS3]
  refine tkA 8 (?_) ?_ E0.out ?_
  rotate_left
  · (intro w1 hS; go_simp; try with_reducible rfl)
  simp only [Act.put, tS1, tS2, tS3]
  refine tkA 4 (?_) ?_ E0.out ?_
  rotate_left
  · (intro w1 hS; go_simp; try with_reducible rfl)
  simp only [Act.put, tS1, tS2, tS3]
  refine tkA 5 (?_) ?_ E0.out ?_
  rotate_left
  · (intro w1 hS; go_simp; try with_reducible rfl)
  simp only [Act.put, tS1, tS2, tS3]
  refine tkA 6 (?_) ?_ E0.out ?_
  rotate_left
  · (intro w1 hS; go_simp; try with_reducible rfl)
  simp only [Act.put, tS1, tS2, tS3]
  refine tkA 7 (?_) ?_ E0.out ?_
  rotate_left
  · (intro w1 hS; have hW := hS; have q := ((C.out.below hW C.out.lt).cell (i * 2)).trans GE0.out; clear hW hS; go_simp; try with_reducible rfl)
  simp only [Act.put, tS1, tS2, tS3]
  refine tkA 9 (?_) ?_ E0.out ?_
  rotate_left
  · (intro w1 hS; go_simp; try with_reducible rfl)
  simp only [Act.put, tS1, tS2, tS3]
  refine wpAnyH_done (by kernel_rfl) ?_ _
  have hy := E0.out
  replace K := Lib.hid (K.out.trans (hy.mono K.out.size))
  replace HG := Lib.hid (HG.out.below hy)
  replace P := Lib.hid (P.out.below hy P.out.lt)
  replace C := Lib.hid (C.out.below hy C.out.lt)
  clear hy E0
  go_wp2
  go_ret2
  exact ⟨rfl, K.out⟩
theorem Apart.refl_below {B n : Nat} {w w' : World} (h : Below w.heap.size w w') : Apart B n w w' := .of_below h
theorem setI_any (B st sz : Nat) (c : Nat → Option Int) (a b : Int) (v : Int) (w : World) (h : GdI B st sz c w) :
    Calls Try.prog 10 #[.pointer (some ⟨B + 1, 0, none⟩), .agg (plA a b), .int .i64 v] w fun e w' => e = .returned (.bool (decide (inP st sz a b))) ∧ GdI B st sz (ptP st sz c a b (some v)) w' ∧ Apart B (2 + st) w w' := by
  by_cases hp : inP st sz a b
  · rw [decide_eq_true hp]
    obtain ⟨s, i, rfl, rfl, h1, h2⟩ := inP_nat hp
    rw [ptP_in c h1 h2]
    exact setI_in B st sz c s i h1 h2 v w h
  · rw [decide_eq_false hp, ptP_no c hp]
    refine (setI_no B st sz c a b hp v w h).mono ?_
    rintro e w' ⟨rfl, hy⟩
    exact ⟨rfl, h.below hy, .of_below hy⟩
theorem getI_any (B st sz : Nat) (c : Nat → Option Int) (a b : Int) (w : World) (h : GdI B st sz c w) :
    Calls Try.prog 12 #[.pointer (some ⟨B + 1, 0, none⟩), .agg (plA a b)] w fun e w' => e = .returned (.tuple #[.int .i64 ((lkP st sz c a b).getD 0), .bool (lkP st sz c a b).isSome]) ∧ Below w.heap.size w w' := by
  by_cases hp : inP st sz a b
  · obtain ⟨s, i, rfl, rfl, h1, h2⟩ := inP_nat hp
    rw [lkP_in c h1 h2]
    exact getI_in B st sz c s i h1 h2 w h
  · rw [lkP_no c hp]
    exact getI_no B st sz c a b hp w h
theorem freeI_any (B st sz : Nat) (c : Nat → Option Int) (a b : Int) (w : World) (h : GdI B st sz c w) :
    Calls Try.prog 11 #[.pointer (some ⟨B + 1, 0, none⟩), .agg (plA a b)] w fun e w' => e = .returned (.bool (lkP st sz c a b).isSome) ∧ GdI B st sz (ptP st sz c a b none) w' ∧ Apart B (2 + st) w w' := by
  by_cases hp : inP st sz a b
  · obtain ⟨s, i, rfl, rfl, h1, h2⟩ := inP_nat hp
    rw [lkP_in c h1 h2, ptP_in c h1 h2]
    cases hc : c (s * sz + i) with
    | some u => exact freeI_in B st sz c s i h1 h2 u hc w h
    | none =>
      refine (freeI_none B st sz c s i h1 h2 hc w h).mono ?_
      rintro e w' ⟨rfl, hy⟩
      refine ⟨rfl, ?_, .of_below hy⟩
      rw [← hc, putC_same]
      exact h.below hy
  · rw [lkP_no c hp, ptP_no c hp]
    refine (freeI_no B st sz c a b hp w h).mono ?_
    rintro e w' ⟨rfl, hy⟩
    exact ⟨rfl, h.below hy, .of_below hy⟩
end Go.Proofs.Ytimnmdeiiahakaa
