/- Texts that the walks of this seat lean on, put together. -/
import Derived.Test.YthkaadcgiplolaaDoorTk
import Derived.Test.YthkaadcgiplolaaDoorM38
import Derived.Test.YthkaadcgiplolaaDoorM40
namespace Go.Proofs.YthkaadcgiplolaaDoor
open Go.RowKit Go.Lib
theorem list_ne {x y : List UInt8} (h : x ≠ y) : ((⟨x.toArray⟩ : ByteArray).toList == (⟨y.toArray⟩ : ByteArray).toList) = false := by
  rw [Go.ByteArray.toList_eq, Go.ByteArray.toList_eq, beq_eq_false_iff_ne]
  simpa using h
set_option maxRecDepth 100000 in
set_option maxHeartbeats 8000000 in
theorem back_na (a b : Fl) (ha : a.Fit) (hb : b.Fit) (w : World) (hE : Env w) (va : vK a = false) :
    Calls Tryd.prog 4 #[.agg a.cs, .agg b.cs] w fun e w' => e = .returned (.bool true) ∧ Below w.heap.size w w' := by
  have K := Lib.hid (Below.refl w.heap.size w)
  have HE := Lib.hid hE
  have IK := Lib.hid (fl_ik a ha)
  have IKb := Lib.hid (fl_ik b hb)
  have VA := Lib.hid (fun W => rvalid_any a ha W)
  have VB := Lib.hid (fun W => rvalid_any b hb W)
  rw [va] at VA
  clear va ha hb hE
  generalize a.cs = kc at *
  generalize b.cs = kcb at *
  go_enter Tryd.func4, Tryd.ntmps4
  have hal := (Below.refl w.heap.size w).alloc (Nat.le_refl _) (.cells kc 27)
  replace K := Lib.hid (K.out.trans (hal.mono K.out.size))
  have N := Lib.hid (Blk.new w 27 kc)
  clear hal
  have hal := (Below.refl (w.alloc (.cells kc 27)).heap.size (w.alloc (.cells kc 27))).alloc (Nat.le_refl _) (.cells kcb 27)
  replace K := Lib.hid (K.out.trans (hal.mono K.out.size))
  replace N := Lib.hid (N.out.below hal N.out.lt)
  have Nbq := Blk.new (w.alloc (.cells kc 27)) 27 kcb
  simp only [World.size_alloc] at Nbq
  have Nb := Lib.hid Nbq
  clear Nbq
  clear hal
  have L1 : (loadVar 27 ⟨w.heap.size, 0, none⟩).run Tryd.prog ((w.alloc (.cells kc 27)).alloc (.cells kcb 27)) = .ok (.agg kc) ((w.alloc (.cells kc 27)).alloc (.cells kcb 27)) := run_blk_load (P := Tryd.prog) 27 (w.heap.size) _ N.out Tryd.underlying27 rfl IK.out
  replace L1 := Lib.hid L1
  go_wp2_with (((with_reducible refine wpList_load_want (op := ⟨some 7, .load 27 (.tmp 2), _, _, _, _⟩) ?wg1 27 (.tmp 2) ?wo1 ⟨w.heap.size, 0, none⟩ ?wx1 (.agg kc) L1.out ?_); (case wg1 => rfl); (case wo1 => rfl); (case wx1 => rfl)))
  clear L1
  have hzV1 : Hid (((w.alloc (.cells kc 27)).alloc (.cells kcb 27)).heap.size = w.heap.size + 1 + 1) := by show _ = _; simp only [World.size_alloc]
  generalize ((w.alloc (.cells kc 27)).alloc (.cells kcb 27)) = V1 at *
  refine (VA.out V1).mono ?_
  rintro e V2 ⟨rfl, hy⟩
  replace K := Lib.hid (K.out.trans (hy.mono K.out.size))
  replace N := Lib.hid (N.out.below hy N.out.lt)
  replace Nb := Lib.hid (Nb.out.below hy Nb.out.lt)
  clear hy
  go_wp2_with fail
  refine (awake_any V2 (HE.out.below K.out)).mono ?_
  rintro e V3 ⟨rfl, hy⟩
  replace K := Lib.hid (K.out.trans (hy.mono K.out.size))
  replace N := Lib.hid (N.out.below hy N.out.lt)
  replace Nb := Lib.hid (Nb.out.below hy Nb.out.lt)
  clear hy
  go_wp2
  go_ret
  exact ⟨rfl, K.out⟩
set_option maxRecDepth 100000 in
set_option maxHeartbeats 8000000 in
theorem back_nb (a b : Fl) (ha : a.Fit) (hb : b.Fit) (w : World) (hE : Env w) (va : vK a = true) (vb : vK b = false) :
    Calls Tryd.prog 4 #[.agg a.cs, .agg b.cs] w fun e w' => e = .returned (.bool true) ∧ Below w.heap.size w w' := by
  have K := Lib.hid (Below.refl w.heap.size w)
  have HE := Lib.hid hE
  have IK := Lib.hid (fl_ik a ha)
  have IKb := Lib.hid (fl_ik b hb)
  have VA := Lib.hid (fun W => rvalid_any a ha W)
  have VB := Lib.hid (fun W => rvalid_any b hb W)
  rw [va] at VA
  rw [vb] at VB
  clear va vb ha hb hE
  generalize a.cs = kc at *
  generalize b.cs = kcb at *
  go_enter Tryd.func4, Tryd.ntmps4
  have hal := (Below.refl w.heap.size w).alloc (Nat.le_refl _) (.cells kc 27)
  replace K := Lib.hid (K.out.trans (hal.mono K.out.size))
  have N := Lib.hid (Blk.new w 27 kc)
  clear hal
  have hal := (Below.refl (w.alloc (.cells kc 27)).heap.size (w.alloc (.cells kc 27))).alloc (Nat.le_refl _) (.cells kcb 27)
  replace K := Lib.hid (K.out.trans (hal.mono K.out.size))
  replace N := Lib.hid (N.out.below hal N.out.lt)
  have Nbq := Blk.new (w.alloc (.cells kc 27)) 27 kcb
  simp only [World.size_alloc] at Nbq
  have Nb := Lib.hid Nbq
  clear Nbq
  clear hal
  have L2 : (loadVar 27 ⟨w.heap.size, 0, none⟩).run Tryd.prog ((w.alloc (.cells kc 27)).alloc (.cells kcb 27)) = .ok (.agg kc) ((w.alloc (.cells kc 27)).alloc (.cells kcb 27)) := run_blk_load (P := Tryd.prog) 27 (w.heap.size) _ N.out Tryd.underlying27 rfl IK.out
  replace L2 := Lib.hid L2
  go_wp2_with (((with_reducible refine wpList_load_want (op := ⟨some 7, .load 27 (.tmp 2), _, _, _, _⟩) ?wg2 27 (.tmp 2) ?wo2 ⟨w.heap.size, 0, none⟩ ?wx2 (.agg kc) L2.out ?_); (case wg2 => rfl); (case wo2 => rfl); (case wx2 => rfl)))
  clear L2
  have hzV1 : Hid (((w.alloc (.cells kc 27)).alloc (.cells kcb 27)).heap.size = w.heap.size + 1 + 1) := by show _ = _; simp only [World.size_alloc]
  generalize ((w.alloc (.cells kc 27)).alloc (.cells kcb 27)) = V1 at *
  refine (VA.out V1).mono ?_
  rintro e V2 ⟨rfl, hy⟩
  replace K := Lib.hid (K.out.trans (hy.mono K.out.size))
  replace N := Lib.hid (N.out.below hy N.out.lt)
  replace Nb := Lib.hid (Nb.out.below hy Nb.out.lt)
  clear hy
  have L3 : (loadVar 27 ⟨w.heap.size + 1, 0, none⟩).run Tryd.prog V2 = .ok (.agg kcb) V2 := run_blk_load (P := Tryd.prog) 27 (w.heap.size + 1) _ Nb.out Tryd.underlying27 rfl IKb.out
  replace L3 := Lib.hid L3
  go_wp2_with (((with_reducible refine wpList_load_want (op := ⟨some 11, .load 27 (.tmp 3), _, _, _, _⟩) ?wg3 27 (.tmp 3) ?wo3 ⟨w.heap.size + 1, 0, none⟩ ?wx3 (.agg kcb) L3.out ?_); (case wg3 => rfl); (case wo3 => rfl); (case wx3 => rfl)))
  clear L3
  refine (VB.out V2).mono ?_
  rintro e V3 ⟨rfl, hy⟩
  replace K := Lib.hid (K.out.trans (hy.mono K.out.size))
  replace N := Lib.hid (N.out.below hy N.out.lt)
  replace Nb := Lib.hid (Nb.out.below hy Nb.out.lt)
  clear hy
  go_wp2_with fail
  refine (awake_any V3 (HE.out.below K.out)).mono ?_
  rintro e V4 ⟨rfl, hy⟩
  replace K := Lib.hid (K.out.trans (hy.mono K.out.size))
  replace N := Lib.hid (N.out.below hy N.out.lt)
  replace Nb := Lib.hid (Nb.out.below hy Nb.out.lt)
  clear hy
  go_wp2
  go_ret
  exact ⟨rfl, K.out⟩
set_option maxRecDepth 100000 in
set_option maxHeartbeats 8000000 in
theorem back_same (a : Fl) (ha : a.Fit) (w : World) (hE : Env w) (va : vK a = true) :
    Calls Tryd.prog 4 #[.agg a.cs, .agg a.cs] w fun e w' => e = .returned (.bool true) ∧ Below w.heap.size w w' := by
  have K := Lib.hid (Below.refl w.heap.size w)
  have HE := Lib.hid hE
  have IK := Lib.hid (fl_ik a ha)
  have VA := Lib.hid (fun W => rvalid_any a ha W)
  have VB := Lib.hid (fun W => rvalid_any a ha W)
  rw [va] at VA
  rw [va] at VB
  have B1 := Lib.hid (fun W => kbytes_any a ha W)
  have B2 := Lib.hid (fun W => kbytes_any a ha W)
  have CF := Lib.hid (show ∀ W y, Rd W y (nus .u8 (bK a)) → Calls Tryd.prog 9 #[y] W fun e w' => e = .returned (.tuple #[.agg a.cs, .int .i64 0]) ∧ Below W.heap.size W w' from fun W y h => by
    have q := kfrom_any y (bK a) W h (bK_lt a ha)
    unfold fcs at q
    rw [(back_ok a ha va).1, (back_ok a ha va).2] at q
    exact q)
  have T1 := Lib.hid (fun W hW => ktext_any a ha W hW)
  have T2 := Lib.hid (fun W hW => ktext_any a ha W hW)
  have C1 := Lib.hid (fun W => kcmp_any a a ha ha W)
  have C2 := Lib.hid (fun W => kcmp_any a a ha ha W)
  have EA := Lib.hid (fun W => eq_fl_yes a ha W)
  have cr := cmpN_range (bK a) (bK a)
  have sA := a.cs_size ha
  have YA : Hid (a.cs.size = Array.size (ZcK : Array Value)) := sA
  have QA := Lib.hid (i42.trans (congrArg some sA.symm))
  have AA := Lib.hid a.cs_all
  have hz : cmpN (bK a) (bK a) = 0 := (cmpN_zero _ _ (bK_lt a ha) (bK_lt a ha)).2 rfl
  have HW : Hid (IntKind.i64.wrap (-0) = 0) := rfl
  rw [hz] at C1 C2
  clear hz cr
  generalize (⟨(tK a).toArray⟩ : ByteArray) = TA at *
  generalize bK a = BA at *
  clear ha hE va sA
  generalize a.cs = kc at *
  go_enter Tryd.func4, Tryd.ntmps4
  have hal := (Below.refl w.heap.size w).alloc (Nat.le_refl _) (.cells kc 27)
  replace K := Lib.hid (K.out.trans (hal.mono K.out.size))
  have N := Lib.hid (Blk.new w 27 kc)
  clear hal
  have hal := (Below.refl (w.alloc (.cells kc 27)).heap.size (w.alloc (.cells kc 27))).alloc (Nat.le_refl _) (.cells kc 27)
  replace K := Lib.hid (K.out.trans (hal.mono K.out.size))
  replace N := Lib.hid (N.out.below hal N.out.lt)
  have Nbq := Blk.new (w.alloc (.cells kc 27)) 27 kc
  simp only [World.size_alloc] at Nbq
  have Nb := Lib.hid Nbq
  clear Nbq
  clear hal
  have L4 : (loadVar 27 ⟨w.heap.size, 0, none⟩).run Tryd.prog ((w.alloc (.cells kc 27)).alloc (.cells kc 27)) = .ok (.agg kc) ((w.alloc (.cells kc 27)).alloc (.cells kc 27)) := run_blk_load (P := Tryd.prog) 27 (w.heap.size) _ N.out Tryd.underlying27 rfl IK.out
  replace L4 := Lib.hid L4
  go_wp2_with (((with_reducible refine wpList_load_want (op := ⟨some 7, .load 27 (.tmp 2), _, _, _, _⟩) ?wg4 27 (.tmp 2) ?wo4 ⟨w.heap.size, 0, none⟩ ?wx4 (.agg kc) L4.out ?_); (case wg4 => rfl); (case wo4 => rfl); (case wx4 => rfl)))
  clear L4
  have hzV1 : Hid (((w.alloc (.cells kc 27)).alloc (.cells kc 27)).heap.size = w.heap.size + 1 + 1) := by show _ = _; simp only [World.size_alloc]
  generalize ((w.alloc (.cells kc 27)).alloc (.cells kc 27)) = V1 at *
  refine (VA.out V1).mono ?_
  rintro e V2 ⟨rfl, hy⟩
  replace K := Lib.hid (K.out.trans (hy.mono K.out.size))
  replace N := Lib.hid (N.out.below hy N.out.lt)
  replace Nb := Lib.hid (Nb.out.below hy Nb.out.lt)
  clear hy
  have L5 : (loadVar 27 ⟨w.heap.size + 1, 0, none⟩).run Tryd.prog V2 = .ok (.agg kc) V2 := run_blk_load (P := Tryd.prog) 27 (w.heap.size + 1) _ Nb.out Tryd.underlying27 rfl IK.out
  replace L5 := Lib.hid L5
  go_wp2_with (((with_reducible refine wpList_load_want (op := ⟨some 11, .load 27 (.tmp 3), _, _, _, _⟩) ?wg5 27 (.tmp 3) ?wo5 ⟨w.heap.size + 1, 0, none⟩ ?wx5 (.agg kc) L5.out ?_); (case wg5 => rfl); (case wo5 => rfl); (case wx5 => rfl)))
  clear L5
  refine (VB.out V2).mono ?_
  rintro e V3 ⟨rfl, hy⟩
  replace K := Lib.hid (K.out.trans (hy.mono K.out.size))
  replace N := Lib.hid (N.out.below hy N.out.lt)
  replace Nb := Lib.hid (Nb.out.below hy Nb.out.lt)
  clear hy
  have L6 : (loadVar 27 ⟨w.heap.size, 0, none⟩).run Tryd.prog V3 = .ok (.agg kc) V3 := run_blk_load (P := Tryd.prog) 27 (w.heap.size) _ N.out Tryd.underlying27 rfl IK.out
  replace L6 := Lib.hid L6
  go_wp2_with (((with_reducible refine wpList_load_want (op := ⟨some 17, .load 27 (.tmp 2), _, _, _, _⟩) ?wg6 27 (.tmp 2) ?wo6 ⟨w.heap.size, 0, none⟩ ?wx6 (.agg kc) L6.out ?_); (case wg6 => rfl); (case wo6 => rfl); (case wx6 => rfl)))
  clear L6
  refine (B1.out V3).mono ?_
  rintro e V4 ⟨x0, rfl, r0, hy⟩
  replace K := Lib.hid (K.out.trans (hy.mono K.out.size))
  replace N := Lib.hid (N.out.below hy N.out.lt)
  replace Nb := Lib.hid (Nb.out.below hy Nb.out.lt)
  have R0 := Lib.hid (r0)
  clear r0
  clear hy
  go_wp2_with fail
  refine (CF.out V4 _ R0.out).mono ?_
  rintro e V5 ⟨rfl, hy⟩
  replace K := Lib.hid (K.out.trans (hy.mono K.out.size))
  replace N := Lib.hid (N.out.below hy N.out.lt)
  replace Nb := Lib.hid (Nb.out.below hy Nb.out.lt)
  replace R0 := Lib.hid (R0.out.below hy)
  clear hy
  go_wp2_with (((with_reducible refine wpList_blk_store (op := ⟨none, .store 27 (.tmp 5) (.tmp 20), _, _, _, _⟩) ?sg7 27 (.tmp 5) (.tmp 20) ?so7 (V5.heap.size) kc ?sx7 ?sy7 (Blk.new V5 27 ZcK) YA.out QA.out AA.out ?_); (case sg7 => rfl); (case so7 => rfl); (case sx7 => rfl); (case sy7 => rfl)))
  have qNNX : w.heap.size < V5.heap.size := N.out.lt
  have qNbNX : w.heap.size + 1 < V5.heap.size := Nb.out.lt
  intro V6 hA hF hB
  have hy := ((Below.refl V5.heap.size V5).alloc (Nat.le_refl _) (.cells ZcK 27)).trans (hB _ (Nat.le_refl _))
  replace K := Lib.hid (K.out.trans (hy.mono K.out.size))
  replace N := Lib.hid (N.out.below hy N.out.lt)
  replace Nb := Lib.hid (Nb.out.below hy Nb.out.lt)
  replace R0 := Lib.hid (R0.out.below hy)
  have NX := Lib.hid hA
  clear hA hF hB hy
  go_wp2_with fail
  refine wp_region_held (S := (fun w' : World => Below (V6.heap.size) V6 w')) (by kernel_rfl) ?_
  change wpAnyH _ _ _ _ _ _ _ _ V6.drew
  have hy : Below V6.heap.size V6 V6.drew := (Below.refl _ _).drew
  have hE0 : Below (V6.heap.size) V6 V6.drew := (Below.refl _ _).drew
  clear hy
  generalize V6.drew = Y4x0 at hE0  ⊢
  have E0 := Lib.hid hE0
  clear hE0
  refine tkA 0 (?_) ?_ E0.out ?_
  rotate_left
  · (intro w1 hS; go_simp; try with_reducible rfl)
  simp only [Act.put, tS1, tS2, tS3]
  refine tkA 1 (?_) ?_ E0.out ?_
  rotate_left
  · (intro w1 hS; go_simp; try with_reducible rfl)
  simp only [Act.put, tS1, tS2, tS3]
  refine tkA 2 (?_) ?_ E0.out ?_
  rotate_left
  · (intro w1 hS; go_simp; try with_reducible rfl)
  simp only [Act.put, tS1, tS2, tS3]
  refine tkA 3 (.agg kc) ?_ E0.out ?_
  · (intro w1 hS; have hW := hS; exact exec_load 27 (.tmp 5) rfl _ rfl _ (run_blk_load (P := Tryd.prog) 27 (V5.heap.size) _ (NX.out.below hW NX.out.lt) Tryd.underlying27 rfl QA.out))
  simp only [Act.put, tS1, tS2, tS3]
  refine tkA 4 (.agg kc) ?_ E0.out ?_
  · (intro w1 hS; have hW := hS; exact exec_load 27 (.tmp 2) rfl _ rfl _ (run_blk_load (P := Tryd.prog) 27 (w.heap.size) _ (N.out.below hW N.out.lt) Tryd.underlying27 rfl IK.out))
  simp only [Act.put, tS1, tS2, tS3]
  refine tkA 5 (?_) ?_ E0.out ?_
  rotate_left
  · (intro w1 hS; have hW := hS; have q := EA.out; clear hW hS; go_simp; try with_reducible rfl)
  simp only [Act.put, tS1, tS2, tS3]
  refine tkA 6 (?_) ?_ E0.out ?_
  rotate_left
  · (intro w1 hS; go_simp; try with_reducible rfl)
  simp only [Act.put, tS1, tS2, tS3]
  refine tkA 7 (?_) ?_ E0.out ?_
  rotate_left
  · (intro w1 hS; go_simp; try with_reducible rfl)
  simp only [Act.put, tS1, tS2, tS3]
  refine tkA 8 (.agg kc) ?_ E0.out ?_
  · (intro w1 hS; have hW := hS; exact exec_load 27 (.tmp 2) rfl _ rfl _ (run_blk_load (P := Tryd.prog) 27 (w.heap.size) _ (N.out.below hW N.out.lt) Tryd.underlying27 rfl IK.out))
  simp only [Act.put, tS1, tS2, tS3]
  refine tkA 11 (.agg kc) ?_ E0.out ?_
  · (intro w1 hS; have hW := hS; exact exec_load 27 (.tmp 3) rfl _ rfl _ (run_blk_load (P := Tryd.prog) 27 (w.heap.size + 1) _ (Nb.out.below hW Nb.out.lt) Tryd.underlying27 rfl IK.out))
  simp only [Act.put, tS1, tS2, tS3]
  refine tkA 15 (.agg kc) ?_ E0.out ?_
  · (intro w1 hS; have hW := hS; exact exec_load 27 (.tmp 2) rfl _ rfl _ (run_blk_load (P := Tryd.prog) 27 (w.heap.size) _ (N.out.below hW N.out.lt) Tryd.underlying27 rfl IK.out))
  simp only [Act.put, tS1, tS2, tS3]
  refine tkA 16 (.agg kc) ?_ E0.out ?_
  · (intro w1 hS; have hW := hS; exact exec_load 27 (.tmp 3) rfl _ rfl _ (run_blk_load (P := Tryd.prog) 27 (w.heap.size + 1) _ (Nb.out.below hW Nb.out.lt) Tryd.underlying27 rfl IK.out))
  simp only [Act.put, tS1, tS2, tS3]
  refine tkA 17 (?_) ?_ E0.out ?_
  rotate_left
  · (intro w1 hS; have hW := hS; have q := EA.out; clear hW hS; go_simp; try with_reducible rfl)
  simp only [Act.put, tS1, tS2, tS3]
  refine tkO 9 (fun KK hK => ?_)
  go_simp
  refine (B1.out Y4x0).mono ?_
  rintro e Y4x1 ⟨x1, rfl, r1, hy⟩
  have E1 := Lib.hid (E0.out.trans (hy.mono E0.out.size))
  have C1 := Lib.hid E1.out
  have R1 := Lib.hid (r1)
  clear r1
  clear hy E0
  refine hK.out _ _ C1.out (fun _ => ?_)
  clear hK KK
  refine wpAnyH_mono (S' := (fun w' : World => Below Y4x1.heap.size Y4x1 w')) (fun w1 h => C1.out.trans (h.mono C1.out.size)) _ _ _ _ ?_
  clear C1
  try simp only [Act.put, tS1, tS2, tS3]
  refine tkA 10 (?_) ?_ (Below.refl _ _) ?_
  rotate_left
  · (intro w1 hS; have hW := E1.out.trans (hS.mono E1.out.size); have q := (conv_rd (P := Tryd.prog) w1 28 9 5 Tryd.underlying28 Tryd.underlying5 Tryd.underlying9 _ _ (R1.out.below hS)); clear hW hS; go_simp; try with_reducible rfl)
  simp only [Act.put, tS1, tS2, tS3]
  refine tkO 12 (fun KK hK => ?_)
  go_simp
  refine (B2.out Y4x1).mono ?_
  rintro e Y4x2 ⟨x2, rfl, r2, hy⟩
  replace R1 := Lib.hid (R1.out.below hy)
  have E2 := Lib.hid (E1.out.trans (hy.mono E1.out.size))
  have C2 := Lib.hid hy
  have R2 := Lib.hid (r2)
  clear r2
  clear hy E1
  refine hK.out _ _ C2.out (fun _ => ?_)
  clear hK KK
  refine wpAnyH_mono (S' := (fun w' : World => Below Y4x2.heap.size Y4x2 w')) (fun w1 h => C2.out.trans (h.mono C2.out.size)) _ _ _ _ ?_
  clear C2
  try simp only [Act.put, tS1, tS2, tS3]
  refine tkA 13 (?_) ?_ (Below.refl _ _) ?_
  rotate_left
  · (intro w1 hS; have hW := E2.out.trans (hS.mono E2.out.size); have q := (conv_rd (P := Tryd.prog) w1 28 9 5 Tryd.underlying28 Tryd.underlying5 Tryd.underlying9 _ _ (R2.out.below hS)); clear hW hS; go_simp; try with_reducible rfl)
  simp only [Act.put, tS1, tS2, tS3]
  refine tkA 14 (?_) ?_ (Below.refl _ _) ?_
  rotate_left
  · (intro w1 hS; go_simp; try with_reducible rfl)
  simp only [Act.put, tS1, tS2, tS3]
  refine tkA 18 (?_) ?_ (Below.refl _ _) ?_
  rotate_left
  · (intro w1 hS; go_simp; try with_reducible rfl)
  simp only [Act.put, tS1, tS2, tS3]
  refine tkA 19 (?_) ?_ (Below.refl _ _) ?_
  rotate_left
  · (intro w1 hS; go_simp; try with_reducible rfl)
  simp only [Act.put, tS1, tS2, tS3]
  refine tkA 20 (?_) ?_ (Below.refl _ _) ?_
  rotate_left
  · (intro w1 hS; go_simp; try with_reducible rfl)
  simp only [Act.put, tS1, tS2, tS3]
  refine tkA 21 (.agg kc) ?_ (Below.refl _ _) ?_
  · (intro w1 hS; have hW := E2.out.trans (hS.mono E2.out.size); exact exec_load 27 (.tmp 2) rfl _ rfl _ (run_blk_load (P := Tryd.prog) 27 (w.heap.size) _ (N.out.below hW N.out.lt) Tryd.underlying27 rfl IK.out))
  simp only [Act.put, tS1, tS2, tS3]
  refine tkA 23 (.agg kc) ?_ (Below.refl _ _) ?_
  · (intro w1 hS; have hW := E2.out.trans (hS.mono E2.out.size); exact exec_load 27 (.tmp 3) rfl _ rfl _ (run_blk_load (P := Tryd.prog) 27 (w.heap.size + 1) _ (Nb.out.below hW Nb.out.lt) Tryd.underlying27 rfl IK.out))
  simp only [Act.put, tS1, tS2, tS3]
  refine tkA 26 (.agg kc) ?_ (Below.refl _ _) ?_
  · (intro w1 hS; have hW := E2.out.trans (hS.mono E2.out.size); exact exec_load 27 (.tmp 2) rfl _ rfl _ (run_blk_load (P := Tryd.prog) 27 (w.heap.size) _ (N.out.below hW N.out.lt) Tryd.underlying27 rfl IK.out))
  simp only [Act.put, tS1, tS2, tS3]
  refine tkA 27 (.agg kc) ?_ (Below.refl _ _) ?_
  · (intro w1 hS; have hW := E2.out.trans (hS.mono E2.out.size); exact exec_load 27 (.tmp 3) rfl _ rfl _ (run_blk_load (P := Tryd.prog) 27 (w.heap.size + 1) _ (Nb.out.below hW Nb.out.lt) Tryd.underlying27 rfl IK.out))
  simp only [Act.put, tS1, tS2, tS3]
  refine tkA 28 (?_) ?_ (Below.refl _ _) ?_
  rotate_left
  · (intro w1 hS; have hW := E2.out.trans (hS.mono E2.out.size); have q := EA.out; clear hW hS; go_simp; try with_reducible rfl)
  simp only [Act.put, tS1, tS2, tS3]
  refine tkO 22 (fun KK hK => ?_)
  go_simp
  refine (T1.out Y4x2 ((HE.out.below K.out).below E2.out)).mono ?_
  rintro e Y4x3 ⟨rfl, hy⟩
  replace R1 := Lib.hid (R1.out.below hy)
  replace R2 := Lib.hid (R2.out.below hy)
  have E3 := Lib.hid (E2.out.trans (hy.mono E2.out.size))
  have C3 := Lib.hid hy
  clear hy E2
  refine hK.out _ _ C3.out (fun _ => ?_)
  clear hK KK
  refine wpAnyH_mono (S' := (fun w' : World => Below Y4x3.heap.size Y4x3 w')) (fun w1 h => C3.out.trans (h.mono C3.out.size)) _ _ _ _ ?_
  clear C3
  try simp only [Act.put, tS1, tS2, tS3]
  refine tkO 24 (fun KK hK => ?_)
  go_simp
  refine (T2.out Y4x3 ((HE.out.below K.out).below E3.out)).mono ?_
  rintro e Y4x4 ⟨rfl, hy⟩
  replace R1 := Lib.hid (R1.out.below hy)
  replace R2 := Lib.hid (R2.out.below hy)
  have E4 := Lib.hid (E3.out.trans (hy.mono E3.out.size))
  have C4 := Lib.hid hy
  clear hy E3
  refine hK.out _ _ C4.out (fun _ => ?_)
  clear hK KK
  refine wpAnyH_mono (S' := (fun w' : World => Below Y4x4.heap.size Y4x4 w')) (fun w1 h => C4.out.trans (h.mono C4.out.size)) _ _ _ _ ?_
  clear C4
  try simp only [Act.put, tS1, tS2, tS3]
  refine tkA 25 (?_) ?_ (Below.refl _ _) ?_
  rotate_left
  · (intro w1 hS; go_simp; try with_reducible rfl)
  simp only [Act.put, tS1, tS2, tS3]
  refine tkA 29 (?_) ?_ (Below.refl _ _) ?_
  rotate_left
  · (intro w1 hS; go_simp; try with_reducible rfl)
  simp only [Act.put, tS1, tS2, tS3]
  refine tkA 30 (?_) ?_ (Below.refl _ _) ?_
  rotate_left
  · (intro w1 hS; go_simp; try with_reducible rfl)
  simp only [Act.put, tS1, tS2, tS3]
  refine tkA 31 (?_) ?_ (Below.refl _ _) ?_
  rotate_left
  · (intro w1 hS; go_simp; try with_reducible rfl)
  simp only [Act.put, tS1, tS2, tS3]
  refine tkA 32 (.agg kc) ?_ (Below.refl _ _) ?_
  · (intro w1 hS; have hW := E4.out.trans (hS.mono E4.out.size); exact exec_load 27 (.tmp 2) rfl _ rfl _ (run_blk_load (P := Tryd.prog) 27 (w.heap.size) _ (N.out.below hW N.out.lt) Tryd.underlying27 rfl IK.out))
  simp only [Act.put, tS1, tS2, tS3]
  refine tkA 33 (.agg kc) ?_ (Below.refl _ _) ?_
  · (intro w1 hS; have hW := E4.out.trans (hS.mono E4.out.size); exact exec_load 27 (.tmp 3) rfl _ rfl _ (run_blk_load (P := Tryd.prog) 27 (w.heap.size + 1) _ (Nb.out.below hW Nb.out.lt) Tryd.underlying27 rfl IK.out))
  simp only [Act.put, tS1, tS2, tS3]
  refine tkA 36 (.agg kc) ?_ (Below.refl _ _) ?_
  · (intro w1 hS; have hW := E4.out.trans (hS.mono E4.out.size); exact exec_load 27 (.tmp 2) rfl _ rfl _ (run_blk_load (P := Tryd.prog) 27 (w.heap.size) _ (N.out.below hW N.out.lt) Tryd.underlying27 rfl IK.out))
  simp only [Act.put, tS1, tS2, tS3]
  refine tkA 37 (.agg kc) ?_ (Below.refl _ _) ?_
  · (intro w1 hS; have hW := E4.out.trans (hS.mono E4.out.size); exact exec_load 27 (.tmp 3) rfl _ rfl _ (run_blk_load (P := Tryd.prog) 27 (w.heap.size + 1) _ (Nb.out.below hW Nb.out.lt) Tryd.underlying27 rfl IK.out))
  simp only [Act.put, tS1, tS2, tS3]
  refine tkA 38 (?_) ?_ (Below.refl _ _) ?_
  rotate_left
  · (intro w1 hS; have hW := E4.out.trans (hS.mono E4.out.size); have q := EA.out; clear hW hS; go_simp; try with_reducible rfl)
  simp only [Act.put, tS1, tS2, tS3]
  refine tkO 34 (fun KK hK => ?_)
  go_simp
  refine (C1.out Y4x4).mono ?_
  rintro e Y4x5 ⟨rfl, hy⟩
  replace R1 := Lib.hid (R1.out.below hy)
  replace R2 := Lib.hid (R2.out.below hy)
  have E5 := Lib.hid (E4.out.trans (hy.mono E4.out.size))
  have C5 := Lib.hid hy
  clear hy E4
  refine hK.out _ _ C5.out (fun _ => ?_)
  clear hK KK
  refine wpAnyH_mono (S' := (fun w' : World => Below Y4x5.heap.size Y4x5 w')) (fun w1 h => C5.out.trans (h.mono C5.out.size)) _ _ _ _ ?_
  clear C5
  try simp only [Act.put, tS1, tS2, tS3]
  refine tkA 35 (?_) ?_ (Below.refl _ _) ?_
  rotate_left
  · (intro w1 hS; go_simp; try with_reducible rfl)
  simp only [Act.put, tS1, tS2, tS3]
  refine tkA 39 (?_) ?_ (Below.refl _ _) ?_
  rotate_left
  · (intro w1 hS; go_simp; try with_reducible rfl)
  simp only [Act.put, tS1, tS2, tS3]
  refine tkA 40 (?_) ?_ (Below.refl _ _) ?_
  rotate_left
  · (intro w1 hS; go_simp; try with_reducible rfl)
  simp only [Act.put, tS1, tS2, tS3]
  refine tkA 41 (?_) ?_ (Below.refl _ _) ?_
  rotate_left
  · (intro w1 hS; go_simp; try with_reducible rfl)
  simp only [Act.put, tS1, tS2, tS3]
  refine tkA 42 (.agg kc) ?_ (Below.refl _ _) ?_
  · (intro w1 hS; have hW := E5.out.trans (hS.mono E5.out.size); exact exec_load 27 (.tmp 2) rfl _ rfl _ (run_blk_load (P := Tryd.prog) 27 (w.heap.size) _ (N.out.below hW N.out.lt) Tryd.underlying27 rfl IK.out))
  simp only [Act.put, tS1, tS2, tS3]
  refine tkA 43 (.agg kc) ?_ (Below.refl _ _) ?_
  · (intro w1 hS; have hW := E5.out.trans (hS.mono E5.out.size); exact exec_load 27 (.tmp 3) rfl _ rfl _ (run_blk_load (P := Tryd.prog) 27 (w.heap.size + 1) _ (Nb.out.below hW Nb.out.lt) Tryd.underlying27 rfl IK.out))
  simp only [Act.put, tS1, tS2, tS3]
  refine tkA 45 (.agg kc) ?_ (Below.refl _ _) ?_
  · (intro w1 hS; have hW := E5.out.trans (hS.mono E5.out.size); exact exec_load 27 (.tmp 3) rfl _ rfl _ (run_blk_load (P := Tryd.prog) 27 (w.heap.size + 1) _ (Nb.out.below hW Nb.out.lt) Tryd.underlying27 rfl IK.out))
  simp only [Act.put, tS1, tS2, tS3]
  refine tkA 46 (.agg kc) ?_ (Below.refl _ _) ?_
  · (intro w1 hS; have hW := E5.out.trans (hS.mono E5.out.size); exact exec_load 27 (.tmp 2) rfl _ rfl _ (run_blk_load (P := Tryd.prog) 27 (w.heap.size) _ (N.out.below hW N.out.lt) Tryd.underlying27 rfl IK.out))
  simp only [Act.put, tS1, tS2, tS3]
  refine tkO 44 (fun KK hK => ?_)
  go_simp
  refine (C1.out Y4x5).mono ?_
  rintro e Y4x6 ⟨rfl, hy⟩
  replace R1 := Lib.hid (R1.out.below hy)
  replace R2 := Lib.hid (R2.out.below hy)
  have E6 := Lib.hid (E5.out.trans (hy.mono E5.out.size))
  have C6 := Lib.hid hy
  clear hy E5
  refine hK.out _ _ C6.out (fun _ => ?_)
  clear hK KK
  refine wpAnyH_mono (S' := (fun w' : World => Below Y4x6.heap.size Y4x6 w')) (fun w1 h => C6.out.trans (h.mono C6.out.size)) _ _ _ _ ?_
  clear C6
  try simp only [Act.put, tS1, tS2, tS3]
  refine tkO 47 (fun KK hK => ?_)
  go_simp
  refine (C2.out Y4x6).mono ?_
  rintro e Y4x7 ⟨rfl, hy⟩
  replace R1 := Lib.hid (R1.out.below hy)
  replace R2 := Lib.hid (R2.out.below hy)
  have E7 := Lib.hid (E6.out.trans (hy.mono E6.out.size))
  have C7 := Lib.hid hy
  clear hy E6
  refine hK.out _ _ C7.out (fun _ => ?_)
  clear hK KK
  refine wpAnyH_mono (S' := (fun w' : World => Below Y4x7.heap.size Y4x7 w')) (fun w1 h => C7.out.trans (h.mono C7.out.size)) _ _ _ _ ?_
  clear C7
  try simp only [Act.put, tS1, tS2, tS3]
  refine tkA 48 (?_) ?_ (Below.refl _ _) ?_
  rotate_left
  · (intro w1 hS; have hW := E7.out.trans (hS.mono E7.out.size); have q := HW.out; clear hW hS; go_simp; try with_reducible rfl)
  simp only [Act.put, tS1, tS2, tS3]
  refine tkA 49 (?_) ?_ (Below.refl _ _) ?_
  rotate_left
  · (intro w1 hS; go_simp; try with_reducible rfl)
  simp only [Act.put, tS1, tS2, tS3]
  refine tkA 50 (?_) ?_ (Below.refl _ _) ?_
  rotate_left
  · (intro w1 hS; go_simp; try with_reducible rfl)
  simp only [Act.put, tS1, tS2, tS3]
  refine tkA 51 (?_) ?_ (Below.refl _ _) ?_
  rotate_left
  · (intro w1 hS; go_simp; try with_reducible rfl)
  simp only [Act.put, tS1, tS2, tS3]
  refine tkO 52 (fun KK hK => ?_)
  go_simp
  refine (awake_any Y4x7 ((HE.out.below K.out).below E7.out)).mono ?_
  rintro e Y4x8 ⟨rfl, hy⟩
  replace R1 := Lib.hid (R1.out.below hy)
  replace R2 := Lib.hid (R2.out.below hy)
  have E8 := Lib.hid (E7.out.trans (hy.mono E7.out.size))
  have C8 := Lib.hid hy
  clear hy E7
  refine hK.out _ _ C8.out (fun _ => ?_)
  clear hK KK
  refine wpAnyH_mono (S' := (fun w' : World => Below Y4x8.heap.size Y4x8 w')) (fun w1 h => C8.out.trans (h.mono C8.out.size)) _ _ _ _ ?_
  clear C8
  try simp only [Act.put, tS1, tS2, tS3]
  refine tkA 53 (?_) ?_ (Below.refl _ _) ?_
  rotate_left
  · (intro w1 hS; go_simp; try with_reducible rfl)
  simp only [Act.put, tS1, tS2, tS3]
  refine tkA 54 (?_) ?_ (Below.refl _ _) ?_
  rotate_left
  · (intro w1 hS; go_simp; try with_reducible rfl)
  simp only [Act.put, tS1, tS2, tS3]
  refine wpAnyH_done (by kernel_rfl) ?_ _
  have hy := E8.out
  replace K := Lib.hid (K.out.trans (hy.mono K.out.size))
  replace N := Lib.hid (N.out.below hy N.out.lt)
  replace Nb := Lib.hid (Nb.out.below hy Nb.out.lt)
  replace R0 := Lib.hid (R0.out.below hy)
  replace NX := Lib.hid (NX.out.below hy NX.out.lt)
  clear hy E8
  go_wp2
  go_ret
  exact ⟨rfl, K.out⟩
set_option maxRecDepth 100000 in
set_option maxHeartbeats 8000000 in
theorem back_other (a b : Fl) (ha : a.Fit) (hb : b.Fit) (w : World) (hE : Env w) (va : vK a = true) (vb : vK b = true) (hn : a ≠ b) :
    Calls Tryd.prog 4 #[.agg a.cs, .agg b.cs] w fun e w' => e = .returned (.bool true) ∧ Below w.heap.size w w' := by
  have K := Lib.hid (Below.refl w.heap.size w)
  have HE := Lib.hid hE
  have IK := Lib.hid (fl_ik a ha)
  have IKb := Lib.hid (fl_ik b hb)
  have VA := Lib.hid (fun W => rvalid_any a ha W)
  have VB := Lib.hid (fun W => rvalid_any b hb W)
  rw [va] at VA
  rw [vb] at VB
  have B1 := Lib.hid (fun W => kbytes_any a ha W)
  have B2 := Lib.hid (fun W => kbytes_any b hb W)
  have CF := Lib.hid (show ∀ W y, Rd W y (nus .u8 (bK a)) → Calls Tryd.prog 9 #[y] W fun e w' => e = .returned (.tuple #[.agg a.cs, .int .i64 0]) ∧ Below W.heap.size W w' from fun W y h => by
    have q := kfrom_any y (bK a) W h (bK_lt a ha)
    unfold fcs at q
    rw [(back_ok a ha va).1, (back_ok a ha va).2] at q
    exact q)
  have T1 := Lib.hid (fun W hW => ktext_any a ha W hW)
  have T2 := Lib.hid (fun W hW => ktext_any b hb W hW)
  have C1 := Lib.hid (fun W => kcmp_any a b ha hb W)
  have C2 := Lib.hid (fun W => kcmp_any b a hb ha W)
  have EA := Lib.hid (fun W => eq_fl_yes a ha W)
  have cr := cmpN_range (bK a) (bK b)
  have HW : Hid (IntKind.i64.wrap (-(cmpN (bK b) (bK a))) = cmpN (bK a) (bK b)) := by show _ = _; rw [cmpN_neg (bK a) (bK b), Int.neg_neg, IntKind.wrap_i64]; omega
  have sA := a.cs_size ha
  have YA : Hid (a.cs.size = Array.size (ZcK : Array Value)) := sA
  have QA := Lib.hid (i42.trans (congrArg some sA.symm))
  have AA := Lib.hid a.cs_all
  have hnb : bK a ≠ bK b := fun q => hn (bK_inj a b ha hb va vb q)
  have ES := Lib.hid (show ((str (bK a)).toList == (str (bK b)).toList) = false by rw [str_eq, decide_eq_false (fun q => hnb ((cmpN_zero _ _ (bK_lt a ha) (bK_lt b hb)).1 q))])
  have ET := Lib.hid (list_ne (fun q => hn (tK_inj a b ha hb va vb q)))
  have EC := Lib.hid (show (cmpN (bK a) (bK b) == 0) = false by rw [beq_eq_false_iff_ne]; exact fun q => hnb ((cmpN_zero _ _ (bK_lt a ha) (bK_lt b hb)).1 q))
  have EB := Lib.hid (fun W => eq_fl_no a b ha hb hn W)
  clear hnb cr
  generalize (⟨(tK a).toArray⟩ : ByteArray) = TA at *
  generalize (⟨(tK b).toArray⟩ : ByteArray) = TB at *
  generalize cmpN (bK a) (bK b) = c1 at *
  generalize cmpN (bK b) (bK a) = c2 at *
  generalize hSA : str (bK a) = SA at *
  generalize hSB : str (bK b) = SB at *
  have HSA := Lib.hid hSA
  have HSB := Lib.hid hSB
  clear hSA hSB
  generalize bK a = BA at *
  generalize bK b = BB at *
  clear ha hb hE va vb sA hn
  generalize a.cs = kc at *
  generalize b.cs = kcb at *
  go_enter Tryd.func4, Tryd.ntmps4
  have hal := (Below.refl w.heap.size w).alloc (Nat.le_refl _) (.cells kc 27)
  replace K := Lib.hid (K.out.trans (hal.mono K.out.size))
  have N := Lib.hid (Blk.new w 27 kc)
  clear hal
  have hal := (Below.refl (w.alloc (.cells kc 27)).heap.size (w.alloc (.cells kc 27))).alloc (Nat.le_refl _) (.cells kcb 27)
  replace K := Lib.hid (K.out.trans (hal.mono K.out.size))
  replace N := Lib.hid (N.out.below hal N.out.lt)
  have Nbq := Blk.new (w.alloc (.cells kc 27)) 27 kcb
  simp only [World.size_alloc] at Nbq
  have Nb := Lib.hid Nbq
  clear Nbq
  clear hal
  have L8 : (loadVar 27 ⟨w.heap.size, 0, none⟩).run Tryd.prog ((w.alloc (.cells kc 27)).alloc (.cells kcb 27)) = .ok (.agg kc) ((w.alloc (.cells kc 27)).alloc (.cells kcb 27)) := run_blk_load (P := Tryd.prog) 27 (w.heap.size) _ N.out Tryd.underlying27 rfl IK.out
  replace L8 := Lib.hid L8
  go_wp2_with (((with_reducible refine wpList_load_want (op := ⟨some 7, .load 27 (.tmp 2), _, _, _, _⟩) ?wg8 27 (.tmp 2) ?wo8 ⟨w.heap.size, 0, none⟩ ?wx8 (.agg kc) L8.out ?_); (case wg8 => rfl); (case wo8 => rfl); (case wx8 => rfl)))
  clear L8
  have hzV1 : Hid (((w.alloc (.cells kc 27)).alloc (.cells kcb 27)).heap.size = w.heap.size + 1 + 1) := by show _ = _; simp only [World.size_alloc]
  generalize ((w.alloc (.cells kc 27)).alloc (.cells kcb 27)) = V1 at *
  refine (VA.out V1).mono ?_
  rintro e V2 ⟨rfl, hy⟩
  replace K := Lib.hid (K.out.trans (hy.mono K.out.size))
  replace N := Lib.hid (N.out.below hy N.out.lt)
  replace Nb := Lib.hid (Nb.out.below hy Nb.out.lt)
  clear hy
  have L9 : (loadVar 27 ⟨w.heap.size + 1, 0, none⟩).run Tryd.prog V2 = .ok (.agg kcb) V2 := run_blk_load (P := Tryd.prog) 27 (w.heap.size + 1) _ Nb.out Tryd.underlying27 rfl IKb.out
  replace L9 := Lib.hid L9
  go_wp2_with (((with_reducible refine wpList_load_want (op := ⟨some 11, .load 27 (.tmp 3), _, _, _, _⟩) ?wg9 27 (.tmp 3) ?wo9 ⟨w.heap.size + 1, 0, none⟩ ?wx9 (.agg kcb) L9.out ?_); (case wg9 => rfl); (case wo9 => rfl); (case wx9 => rfl)))
  clear L9
  refine (VB.out V2).mono ?_
  rintro e V3 ⟨rfl, hy⟩
  replace K := Lib.hid (K.out.trans (hy.mono K.out.size))
  replace N := Lib.hid (N.out.below hy N.out.lt)
  replace Nb := Lib.hid (Nb.out.below hy Nb.out.lt)
  clear hy
  have L10 : (loadVar 27 ⟨w.heap.size, 0, none⟩).run Tryd.prog V3 = .ok (.agg kc) V3 := run_blk_load (P := Tryd.prog) 27 (w.heap.size) _ N.out Tryd.underlying27 rfl IK.out
  replace L10 := Lib.hid L10
  go_wp2_with (((with_reducible refine wpList_load_want (op := ⟨some 17, .load 27 (.tmp 2), _, _, _, _⟩) ?wg10 27 (.tmp 2) ?wo10 ⟨w.heap.size, 0, none⟩ ?wx10 (.agg kc) L10.out ?_); (case wg10 => rfl); (case wo10 => rfl); (case wx10 => rfl)))
  clear L10
  refine (B1.out V3).mono ?_
  rintro e V4 ⟨x0, rfl, r0, hy⟩
  replace K := Lib.hid (K.out.trans (hy.mono K.out.size))
  replace N := Lib.hid (N.out.below hy N.out.lt)
  replace Nb := Lib.hid (Nb.out.below hy Nb.out.lt)
  have R0 := Lib.hid (r0)
  clear r0
  clear hy
  go_wp2_with fail
  refine (CF.out V4 _ R0.out).mono ?_
  rintro e V5 ⟨rfl, hy⟩
  replace K := Lib.hid (K.out.trans (hy.mono K.out.size))
  replace N := Lib.hid (N.out.below hy N.out.lt)
  replace Nb := Lib.hid (Nb.out.below hy Nb.out.lt)
  replace R0 := Lib.hid (R0.out.below hy)
  clear hy
  go_wp2_with (((with_reducible refine wpList_blk_store (op := ⟨none, .store 27 (.tmp 5) (.tmp 20), _, _, _, _⟩) ?sg11 27 (.tmp 5) (.tmp 20) ?so11 (V5.heap.size) kc ?sx11 ?sy11 (Blk.new V5 27 ZcK) YA.out QA.out AA.out ?_); (case sg11 => rfl); (case so11 => rfl); (case sx11 => rfl); (case sy11 => rfl)))
  have qNNX : w.heap.size < V5.heap.size := N.out.lt
  have qNbNX : w.heap.size + 1 < V5.heap.size := Nb.out.lt
  intro V6 hA hF hB
  have hy := ((Below.refl V5.heap.size V5).alloc (Nat.le_refl _) (.cells ZcK 27)).trans (hB _ (Nat.le_refl _))
  replace K := Lib.hid (K.out.trans (hy.mono K.out.size))
  replace N := Lib.hid (N.out.below hy N.out.lt)
  replace Nb := Lib.hid (Nb.out.below hy Nb.out.lt)
  replace R0 := Lib.hid (R0.out.below hy)
  have NX := Lib.hid hA
  clear hA hF hB hy
  go_wp2_with fail
  refine wp_region_held (S := (fun w' : World => Below (V6.heap.size) V6 w')) (by kernel_rfl) ?_
  change wpAnyH _ _ _ _ _ _ _ _ V6.drew
  have hy : Below V6.heap.size V6 V6.drew := (Below.refl _ _).drew
  have hE0 : Below (V6.heap.size) V6 V6.drew := (Below.refl _ _).drew
  clear hy
  generalize V6.drew = Y4x0 at hE0  ⊢
  have E0 := Lib.hid hE0
  clear hE0
  refine tkA 0 (?_) ?_ E0.out ?_
  rotate_left
  · (intro w1 hS; go_simp; try with_reducible rfl)
  simp only [Act.put, tS1, tS2, tS3]
  refine tkA 1 (?_) ?_ E0.out ?_
  rotate_left
  · (intro w1 hS; go_simp; try with_reducible rfl)
  simp only [Act.put, tS1, tS2, tS3]
  refine tkA 2 (?_) ?_ E0.out ?_
  rotate_left
  · (intro w1 hS; go_simp; try with_reducible rfl)
  simp only [Act.put, tS1, tS2, tS3]
  refine tkA 3 (.agg kc) ?_ E0.out ?_
  · (intro w1 hS; have hW := hS; exact exec_load 27 (.tmp 5) rfl _ rfl _ (run_blk_load (P := Tryd.prog) 27 (V5.heap.size) _ (NX.out.below hW NX.out.lt) Tryd.underlying27 rfl QA.out))
  simp only [Act.put, tS1, tS2, tS3]
  refine tkA 4 (.agg kc) ?_ E0.out ?_
  · (intro w1 hS; have hW := hS; exact exec_load 27 (.tmp 2) rfl _ rfl _ (run_blk_load (P := Tryd.prog) 27 (w.heap.size) _ (N.out.below hW N.out.lt) Tryd.underlying27 rfl IK.out))
  simp only [Act.put, tS1, tS2, tS3]
  refine tkA 5 (?_) ?_ E0.out ?_
  rotate_left
  · (intro w1 hS; have hW := hS; have q := EA.out; clear hW hS; go_simp; try with_reducible rfl)
  simp only [Act.put, tS1, tS2, tS3]
  refine tkA 6 (?_) ?_ E0.out ?_
  rotate_left
  · (intro w1 hS; go_simp; try with_reducible rfl)
  simp only [Act.put, tS1, tS2, tS3]
  refine tkA 7 (?_) ?_ E0.out ?_
  rotate_left
  · (intro w1 hS; go_simp; try with_reducible rfl)
  simp only [Act.put, tS1, tS2, tS3]
  refine tkA 8 (.agg kc) ?_ E0.out ?_
  · (intro w1 hS; have hW := hS; exact exec_load 27 (.tmp 2) rfl _ rfl _ (run_blk_load (P := Tryd.prog) 27 (w.heap.size) _ (N.out.below hW N.out.lt) Tryd.underlying27 rfl IK.out))
  simp only [Act.put, tS1, tS2, tS3]
  refine tkA 11 (.agg kcb) ?_ E0.out ?_
  · (intro w1 hS; have hW := hS; exact exec_load 27 (.tmp 3) rfl _ rfl _ (run_blk_load (P := Tryd.prog) 27 (w.heap.size + 1) _ (Nb.out.below hW Nb.out.lt) Tryd.underlying27 rfl IKb.out))
  simp only [Act.put, tS1, tS2, tS3]
  refine tkA 15 (.agg kc) ?_ E0.out ?_
  · (intro w1 hS; have hW := hS; exact exec_load 27 (.tmp 2) rfl _ rfl _ (run_blk_load (P := Tryd.prog) 27 (w.heap.size) _ (N.out.below hW N.out.lt) Tryd.underlying27 rfl IK.out))
  simp only [Act.put, tS1, tS2, tS3]
  refine tkA 16 (.agg kcb) ?_ E0.out ?_
  · (intro w1 hS; have hW := hS; exact exec_load 27 (.tmp 3) rfl _ rfl _ (run_blk_load (P := Tryd.prog) 27 (w.heap.size + 1) _ (Nb.out.below hW Nb.out.lt) Tryd.underlying27 rfl IKb.out))
  simp only [Act.put, tS1, tS2, tS3]
  refine tkA 17 (?_) ?_ E0.out ?_
  rotate_left
  · (intro w1 hS; have hW := hS; have q := EB.out; clear hW hS; go_simp; try with_reducible rfl)
  simp only [Act.put, tS1, tS2, tS3]
  refine tkO 9 (fun KK hK => ?_)
  go_simp
  refine (B1.out Y4x0).mono ?_
  rintro e Y4x1 ⟨x1, rfl, r1, hy⟩
  have E1 := Lib.hid (E0.out.trans (hy.mono E0.out.size))
  have C1 := Lib.hid E1.out
  have R1 := Lib.hid (r1)
  clear r1
  clear hy E0
  refine hK.out _ _ C1.out (fun _ => ?_)
  clear hK KK
  refine wpAnyH_mono (S' := (fun w' : World => Below Y4x1.heap.size Y4x1 w')) (fun w1 h => C1.out.trans (h.mono C1.out.size)) _ _ _ _ ?_
  clear C1
  try simp only [Act.put, tS1, tS2, tS3]
  refine tkA 10 (?_) ?_ (Below.refl _ _) ?_
  rotate_left
  · (intro w1 hS; have hW := E1.out.trans (hS.mono E1.out.size); have q := (conv_rd (P := Tryd.prog) w1 28 9 5 Tryd.underlying28 Tryd.underlying5 Tryd.underlying9 _ _ (R1.out.below hS)).trans (by rw [HSA.out]); clear hW hS; go_simp; try with_reducible rfl)
  simp only [Act.put, tS1, tS2, tS3]
  refine tkO 12 (fun KK hK => ?_)
  go_simp
  refine (B2.out Y4x1).mono ?_
  rintro e Y4x2 ⟨x2, rfl, r2, hy⟩
  replace R1 := Lib.hid (R1.out.below hy)
  have E2 := Lib.hid (E1.out.trans (hy.mono E1.out.size))
  have C2 := Lib.hid hy
  have R2 := Lib.hid (r2)
  clear r2
  clear hy E1
  refine hK.out _ _ C2.out (fun _ => ?_)
  clear hK KK
  refine wpAnyH_mono (S' := (fun w' : World => Below Y4x2.heap.size Y4x2 w')) (fun w1 h => C2.out.trans (h.mono C2.out.size)) _ _ _ _ ?_
  clear C2
  try simp only [Act.put, tS1, tS2, tS3]
  refine tkA 13 (?_) ?_ (Below.refl _ _) ?_
  rotate_left
  · (intro w1 hS; have hW := E2.out.trans (hS.mono E2.out.size); have q := (conv_rd (P := Tryd.prog) w1 28 9 5 Tryd.underlying28 Tryd.underlying5 Tryd.underlying9 _ _ (R2.out.below hS)).trans (by rw [HSB.out]); clear hW hS; go_simp; try with_reducible rfl)
  simp only [Act.put, tS1, tS2, tS3]
  refine tkA 14 (?_) ?_ (Below.refl _ _) ?_
  rotate_left
  · (intro w1 hS; have hW := E2.out.trans (hS.mono E2.out.size); have q := ES.out; clear hW hS; go_simp; try with_reducible rfl)
  simp only [Act.put, tS1, tS2, tS3]
  refine tkA 18 (?_) ?_ (Below.refl _ _) ?_
  rotate_left
  · (intro w1 hS; go_simp; try with_reducible rfl)
  simp only [Act.put, tS1, tS2, tS3]
  refine tkA 19 (?_) ?_ (Below.refl _ _) ?_
  rotate_left
  · (intro w1 hS; go_simp; try with_reducible rfl)
  simp only [Act.put, tS1, tS2, tS3]
  refine tkA 20 (?_) ?_ (Below.refl _ _) ?_
  rotate_left
  · (intro w1 hS; go_simp; try with_reducible rfl)
  simp only [Act.put, tS1, tS2, tS3]
  refine tkA 21 (.agg kc) ?_ (Below.refl _ _) ?_
  · (intro w1 hS; have hW := E2.out.trans (hS.mono E2.out.size); exact exec_load 27 (.tmp 2) rfl _ rfl _ (run_blk_load (P := Tryd.prog) 27 (w.heap.size) _ (N.out.below hW N.out.lt) Tryd.underlying27 rfl IK.out))
  simp only [Act.put, tS1, tS2, tS3]
  refine tkA 23 (.agg kcb) ?_ (Below.refl _ _) ?_
  · (intro w1 hS; have hW := E2.out.trans (hS.mono E2.out.size); exact exec_load 27 (.tmp 3) rfl _ rfl _ (run_blk_load (P := Tryd.prog) 27 (w.heap.size + 1) _ (Nb.out.below hW Nb.out.lt) Tryd.underlying27 rfl IKb.out))
  simp only [Act.put, tS1, tS2, tS3]
  refine tkA 26 (.agg kc) ?_ (Below.refl _ _) ?_
  · (intro w1 hS; have hW := E2.out.trans (hS.mono E2.out.size); exact exec_load 27 (.tmp 2) rfl _ rfl _ (run_blk_load (P := Tryd.prog) 27 (w.heap.size) _ (N.out.below hW N.out.lt) Tryd.underlying27 rfl IK.out))
  simp only [Act.put, tS1, tS2, tS3]
  refine tkA 27 (.agg kcb) ?_ (Below.refl _ _) ?_
  · (intro w1 hS; have hW := E2.out.trans (hS.mono E2.out.size); exact exec_load 27 (.tmp 3) rfl _ rfl _ (run_blk_load (P := Tryd.prog) 27 (w.heap.size + 1) _ (Nb.out.below hW Nb.out.lt) Tryd.underlying27 rfl IKb.out))
  simp only [Act.put, tS1, tS2, tS3]
  refine tkA 28 (?_) ?_ (Below.refl _ _) ?_
  rotate_left
  · (intro w1 hS; have hW := E2.out.trans (hS.mono E2.out.size); have q := EB.out; clear hW hS; go_simp; try with_reducible rfl)
  simp only [Act.put, tS1, tS2, tS3]
  refine tkO 22 (fun KK hK => ?_)
  go_simp
  refine (T1.out Y4x2 ((HE.out.below K.out).below E2.out)).mono ?_
  rintro e Y4x3 ⟨rfl, hy⟩
  replace R1 := Lib.hid (R1.out.below hy)
  replace R2 := Lib.hid (R2.out.below hy)
  have E3 := Lib.hid (E2.out.trans (hy.mono E2.out.size))
  have C3 := Lib.hid hy
  clear hy E2
  refine hK.out _ _ C3.out (fun _ => ?_)
  clear hK KK
  refine wpAnyH_mono (S' := (fun w' : World => Below Y4x3.heap.size Y4x3 w')) (fun w1 h => C3.out.trans (h.mono C3.out.size)) _ _ _ _ ?_
  clear C3
  try simp only [Act.put, tS1, tS2, tS3]
  refine tkO 24 (fun KK hK => ?_)
  go_simp
  refine (T2.out Y4x3 ((HE.out.below K.out).below E3.out)).mono ?_
  rintro e Y4x4 ⟨rfl, hy⟩
  replace R1 := Lib.hid (R1.out.below hy)
  replace R2 := Lib.hid (R2.out.below hy)
  have E4 := Lib.hid (E3.out.trans (hy.mono E3.out.size))
  have C4 := Lib.hid hy
  clear hy E3
  refine hK.out _ _ C4.out (fun _ => ?_)
  clear hK KK
  refine wpAnyH_mono (S' := (fun w' : World => Below Y4x4.heap.size Y4x4 w')) (fun w1 h => C4.out.trans (h.mono C4.out.size)) _ _ _ _ ?_
  clear C4
  try simp only [Act.put, tS1, tS2, tS3]
  refine tkA 25 (?_) ?_ (Below.refl _ _) ?_
  rotate_left
  · (intro w1 hS; have hW := E4.out.trans (hS.mono E4.out.size); have q := ET.out; clear hW hS; go_simp; try with_reducible rfl)
  simp only [Act.put, tS1, tS2, tS3]
  refine tkA 29 (?_) ?_ (Below.refl _ _) ?_
  rotate_left
  · (intro w1 hS; go_simp; try with_reducible rfl)
  simp only [Act.put, tS1, tS2, tS3]
  refine tkA 30 (?_) ?_ (Below.refl _ _) ?_
  rotate_left
  · (intro w1 hS; go_simp; try with_reducible rfl)
  simp only [Act.put, tS1, tS2, tS3]
  refine tkA 31 (?_) ?_ (Below.refl _ _) ?_
  rotate_left
  · (intro w1 hS; go_simp; try with_reducible rfl)
  simp only [Act.put, tS1, tS2, tS3]
  refine tkA 32 (.agg kc) ?_ (Below.refl _ _) ?_
  · (intro w1 hS; have hW := E4.out.trans (hS.mono E4.out.size); exact exec_load 27 (.tmp 2) rfl _ rfl _ (run_blk_load (P := Tryd.prog) 27 (w.heap.size) _ (N.out.below hW N.out.lt) Tryd.underlying27 rfl IK.out))
  simp only [Act.put, tS1, tS2, tS3]
  refine tkA 33 (.agg kcb) ?_ (Below.refl _ _) ?_
  · (intro w1 hS; have hW := E4.out.trans (hS.mono E4.out.size); exact exec_load 27 (.tmp 3) rfl _ rfl _ (run_blk_load (P := Tryd.prog) 27 (w.heap.size + 1) _ (Nb.out.below hW Nb.out.lt) Tryd.underlying27 rfl IKb.out))
  simp only [Act.put, tS1, tS2, tS3]
  refine tkA 36 (.agg kc) ?_ (Below.refl _ _) ?_
  · (intro w1 hS; have hW := E4.out.trans (hS.mono E4.out.size); exact exec_load 27 (.tmp 2) rfl _ rfl _ (run_blk_load (P := Tryd.prog) 27 (w.heap.size) _ (N.out.below hW N.out.lt) Tryd.underlying27 rfl IK.out))
  simp only [Act.put, tS1, tS2, tS3]
  refine tkA 37 (.agg kcb) ?_ (Below.refl _ _) ?_
  · (intro w1 hS; have hW := E4.out.trans (hS.mono E4.out.size); exact exec_load 27 (.tmp 3) rfl _ rfl _ (run_blk_load (P := Tryd.prog) 27 (w.heap.size + 1) _ (Nb.out.below hW Nb.out.lt) Tryd.underlying27 rfl IKb.out))
  simp only [Act.put, tS1, tS2, tS3]
  refine tkA 38 (?_) ?_ (Below.refl _ _) ?_
  rotate_left
  · (intro w1 hS; have hW := E4.out.trans (hS.mono E4.out.size); have q := EB.out; clear hW hS; go_simp; try with_reducible rfl)
  simp only [Act.put, tS1, tS2, tS3]
  refine tkO 34 (fun KK hK => ?_)
  go_simp
  refine (C1.out Y4x4).mono ?_
  rintro e Y4x5 ⟨rfl, hy⟩
  replace R1 := Lib.hid (R1.out.below hy)
  replace R2 := Lib.hid (R2.out.below hy)
  have E5 := Lib.hid (E4.out.trans (hy.mono E4.out.size))
  have C5 := Lib.hid hy
  clear hy E4
  refine hK.out _ _ C5.out (fun _ => ?_)
  clear hK KK
  refine wpAnyH_mono (S' := (fun w' : World => Below Y4x5.heap.size Y4x5 w')) (fun w1 h => C5.out.trans (h.mono C5.out.size)) _ _ _ _ ?_
  clear C5
  try simp only [Act.put, tS1, tS2, tS3]
  refine tkA 35 (?_) ?_ (Below.refl _ _) ?_
  rotate_left
  · (intro w1 hS; have hW := E5.out.trans (hS.mono E5.out.size); have q := EC.out; clear hW hS; go_simp; try with_reducible rfl)
  simp only [Act.put, tS1, tS2, tS3]
  refine tkA 39 (?_) ?_ (Below.refl _ _) ?_
  rotate_left
  · (intro w1 hS; go_simp; try with_reducible rfl)
  simp only [Act.put, tS1, tS2, tS3]
  refine tkA 40 (?_) ?_ (Below.refl _ _) ?_
  rotate_left
  · (intro w1 hS; go_simp; try with_reducible rfl)
  simp only [Act.put, tS1, tS2, tS3]
  refine tkA 41 (?_) ?_ (Below.refl _ _) ?_
  rotate_left
  · (intro w1 hS; go_simp; try with_reducible rfl)
  simp only [Act.put, tS1, tS2, tS3]
  refine tkA 42 (.agg kc) ?_ (Below.refl _ _) ?_
  · (intro w1 hS; have hW := E5.out.trans (hS.mono E5.out.size); exact exec_load 27 (.tmp 2) rfl _ rfl _ (run_blk_load (P := Tryd.prog) 27 (w.heap.size) _ (N.out.below hW N.out.lt) Tryd.underlying27 rfl IK.out))
  simp only [Act.put, tS1, tS2, tS3]
  refine tkA 43 (.agg kcb) ?_ (Below.refl _ _) ?_
  · (intro w1 hS; have hW := E5.out.trans (hS.mono E5.out.size); exact exec_load 27 (.tmp 3) rfl _ rfl _ (run_blk_load (P := Tryd.prog) 27 (w.heap.size + 1) _ (Nb.out.below hW Nb.out.lt) Tryd.underlying27 rfl IKb.out))
  simp only [Act.put, tS1, tS2, tS3]
  refine tkA 45 (.agg kcb) ?_ (Below.refl _ _) ?_
  · (intro w1 hS; have hW := E5.out.trans (hS.mono E5.out.size); exact exec_load 27 (.tmp 3) rfl _ rfl _ (run_blk_load (P := Tryd.prog) 27 (w.heap.size + 1) _ (Nb.out.below hW Nb.out.lt) Tryd.underlying27 rfl IKb.out))
  simp only [Act.put, tS1, tS2, tS3]
  refine tkA 46 (.agg kc) ?_ (Below.refl _ _) ?_
  · (intro w1 hS; have hW := E5.out.trans (hS.mono E5.out.size); exact exec_load 27 (.tmp 2) rfl _ rfl _ (run_blk_load (P := Tryd.prog) 27 (w.heap.size) _ (N.out.below hW N.out.lt) Tryd.underlying27 rfl IK.out))
  simp only [Act.put, tS1, tS2, tS3]
  refine tkO 44 (fun KK hK => ?_)
  go_simp
  refine (C1.out Y4x5).mono ?_
  rintro e Y4x6 ⟨rfl, hy⟩
  replace R1 := Lib.hid (R1.out.below hy)
  replace R2 := Lib.hid (R2.out.below hy)
  have E6 := Lib.hid (E5.out.trans (hy.mono E5.out.size))
  have C6 := Lib.hid hy
  clear hy E5
  refine hK.out _ _ C6.out (fun _ => ?_)
  clear hK KK
  refine wpAnyH_mono (S' := (fun w' : World => Below Y4x6.heap.size Y4x6 w')) (fun w1 h => C6.out.trans (h.mono C6.out.size)) _ _ _ _ ?_
  clear C6
  try simp only [Act.put, tS1, tS2, tS3]
  refine tkO 47 (fun KK hK => ?_)
  go_simp
  refine (C2.out Y4x6).mono ?_
  rintro e Y4x7 ⟨rfl, hy⟩
  replace R1 := Lib.hid (R1.out.below hy)
  replace R2 := Lib.hid (R2.out.below hy)
  have E7 := Lib.hid (E6.out.trans (hy.mono E6.out.size))
  have C7 := Lib.hid hy
  clear hy E6
  refine hK.out _ _ C7.out (fun _ => ?_)
  clear hK KK
  refine wpAnyH_mono (S' := (fun w' : World => Below Y4x7.heap.size Y4x7 w')) (fun w1 h => C7.out.trans (h.mono C7.out.size)) _ _ _ _ ?_
  clear C7
  try simp only [Act.put, tS1, tS2, tS3]
  refine tkA 48 (?_) ?_ (Below.refl _ _) ?_
  rotate_left
  · (intro w1 hS; have hW := E7.out.trans (hS.mono E7.out.size); have q := HW.out; clear hW hS; go_simp; try with_reducible rfl)
  simp only [Act.put, tS1, tS2, tS3]
  refine tkA 49 (?_) ?_ (Below.refl _ _) ?_
  rotate_left
  · (intro w1 hS; go_simp; try with_reducible rfl)
  simp only [Act.put, tS1, tS2, tS3]
  refine tkA 50 (?_) ?_ (Below.refl _ _) ?_
  rotate_left
  · (intro w1 hS; go_simp; try with_reducible rfl)
  simp only [Act.put, tS1, tS2, tS3]
  refine tkA 51 (?_) ?_ (Below.refl _ _) ?_
  rotate_left
  · (intro w1 hS; go_simp; try with_reducible rfl)
  simp only [Act.put, tS1, tS2, tS3]
  refine tkO 52 (fun KK hK => ?_)
  go_simp
  refine (awake_any Y4x7 ((HE.out.below K.out).below E7.out)).mono ?_
  rintro e Y4x8 ⟨rfl, hy⟩
  replace R1 := Lib.hid (R1.out.below hy)
  replace R2 := Lib.hid (R2.out.below hy)
  have E8 := Lib.hid (E7.out.trans (hy.mono E7.out.size))
  have C8 := Lib.hid hy
  clear hy E7
  refine hK.out _ _ C8.out (fun _ => ?_)
  clear hK KK
  refine wpAnyH_mono (S' := (fun w' : World => Below Y4x8.heap.size Y4x8 w')) (fun w1 h => C8.out.trans (h.mono C8.out.size)) _ _ _ _ ?_
  clear C8
  try simp only [Act.put, tS1, tS2, tS3]
  refine tkA 53 (?_) ?_ (Below.refl _ _) ?_
  rotate_left
  · (intro w1 hS; go_simp; try with_reducible rfl)
  simp only [Act.put, tS1, tS2, tS3]
  refine tkA 54 (?_) ?_ (Below.refl _ _) ?_
  rotate_left
  · (intro w1 hS; go_simp; try with_reducible rfl)
  simp only [Act.put, tS1, tS2, tS3]
  refine wpAnyH_done (by kernel_rfl) ?_ _
  have hy := E8.out
  replace K := Lib.hid (K.out.trans (hy.mono K.out.size))
  replace N := Lib.hid (N.out.below hy N.out.lt)
  replace Nb := Lib.hid (Nb.out.below hy Nb.out.lt)
  replace R0 := Lib.hid (R0.out.below hy)
  replace NX := Lib.hid (NX.out.below hy NX.out.lt)
  clear hy E8
  go_wp2
  go_ret
  exact ⟨rfl, K.out⟩
theorem back_walk (a b : Fl) (ha : a.Fit) (hb : b.Fit) (w : World) (hE : Env w) :
    Calls Tryd.prog 4 #[.agg a.cs, .agg b.cs] w fun e w' => e = .returned (.bool true) ∧ Below w.heap.size w w' := by
  cases va : vK a with
  | false => exact back_na a b ha hb w hE va
  | true =>
    cases vb : vK b with
    | false => exact back_nb a b ha hb w hE va vb
    | true =>
      by_cases hn : a = b
      · subst hn; exact back_same a ha w hE va
      · exact back_other a b ha hb w hE va vb hn
end Go.Proofs.YthkaadcgiplolaaDoor
