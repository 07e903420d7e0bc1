/- Texts that the walks of this seat lean on, put together. -/
import Derived.Deep.CutBlock
import Derived.Deep.DeepCutAuto
import Derived.Test.YthkaadcgiplolaaDoorTk
import Derived.Test.YthkaadcgiplolaaDoorM40
namespace Go.Proofs.YthkaadcgiplolaaDoor
open Go.RowKit Go.Lib
set_option maxRecDepth 100000 in
set_option maxHeartbeats 8000000 in
theorem ord_na (a b c : Fl) (ha : a.Fit) (hb : b.Fit) (hc : c.Fit) (w : World) (hE : Env w) (va : vK a = false) :
    Calls Tryd.prog 6 #[.agg a.cs, .agg b.cs, .agg c.cs] w fun e w' => e = .returned (.bool true) ∧ Below w.heap.size w w' := by
  have K := Lib.hid (Below.refl w.heap.size w)
  have HE := Lib.hid hE
  have IK := Lib.hid (fl_ik a ha)
  have IKb := Lib.hid (fl_ik b hb)
  have IKc := Lib.hid (fl_ik c hc)
  have VA := Lib.hid (fun W => rvalid_any a ha W)
  have VB := Lib.hid (fun W => rvalid_any b hb W)
  have VC := Lib.hid (fun W => rvalid_any c hc W)
  rw [va] at VA
  clear va ha hb hc hE
  generalize a.cs = kc at *
  generalize b.cs = kcb at *
  generalize c.cs = kcc at *
  go_enter Tryd.func6, Tryd.ntmps6
  have hal := (Below.refl w.heap.size w).alloc (Nat.le_refl _) (.cells kc 27)
  replace K := Lib.hid (K.out.trans (hal.mono K.out.size))
  have N := Lib.hid (Blk.new w 27 kc)
  clear hal
  have hal := (Below.refl (w.alloc (.cells kc 27)).heap.size (w.alloc (.cells kc 27))).alloc (Nat.le_refl _) (.cells kcb 27)
  replace K := Lib.hid (K.out.trans (hal.mono K.out.size))
  replace N := Lib.hid (N.out.below hal N.out.lt)
  have Nbq := Blk.new (w.alloc (.cells kc 27)) 27 kcb
  simp only [World.size_alloc] at Nbq
  have Nb := Lib.hid Nbq
  clear Nbq
  clear hal
  have hal := (Below.refl ((w.alloc (.cells kc 27)).alloc (.cells kcb 27)).heap.size ((w.alloc (.cells kc 27)).alloc (.cells kcb 27))).alloc (Nat.le_refl _) (.cells kcc 27)
  replace K := Lib.hid (K.out.trans (hal.mono K.out.size))
  replace N := Lib.hid (N.out.below hal N.out.lt)
  replace Nb := Lib.hid (Nb.out.below hal Nb.out.lt)
  have Ncq := Blk.new ((w.alloc (.cells kc 27)).alloc (.cells kcb 27)) 27 kcc
  simp only [World.size_alloc] at Ncq
  have Nc := Lib.hid Ncq
  clear Ncq
  clear hal
  have L1 : (loadVar 27 ⟨w.heap.size, 0, none⟩).run Tryd.prog (((w.alloc (.cells kc 27)).alloc (.cells kcb 27)).alloc (.cells kcc 27)) = .ok (.agg kc) (((w.alloc (.cells kc 27)).alloc (.cells kcb 27)).alloc (.cells kcc 27)) := run_blk_load (P := Tryd.prog) 27 (w.heap.size) _ N.out Tryd.underlying27 rfl IK.out
  replace L1 := Lib.hid L1
  go_wp2_with (((with_reducible refine wpList_load_want (op := ⟨some 12, .load 27 (.tmp 3), _, _, _, _⟩) ?wg1 27 (.tmp 3) ?wo1 ⟨w.heap.size, 0, none⟩ ?wx1 (.agg kc) L1.out ?_); (case wg1 => rfl); (case wo1 => rfl); (case wx1 => rfl)))
  clear L1
  have hzV1 : Hid ((((w.alloc (.cells kc 27)).alloc (.cells kcb 27)).alloc (.cells kcc 27)).heap.size = w.heap.size + 1 + 1 + 1) := by show _ = _; simp only [World.size_alloc]
  generalize (((w.alloc (.cells kc 27)).alloc (.cells kcb 27)).alloc (.cells kcc 27)) = V1 at *
  refine (VA.out V1).mono ?_
  rintro e V2 ⟨rfl, hy⟩
  replace K := Lib.hid (K.out.trans (hy.mono K.out.size))
  replace N := Lib.hid (N.out.below hy N.out.lt)
  replace Nb := Lib.hid (Nb.out.below hy Nb.out.lt)
  replace Nc := Lib.hid (Nc.out.below hy Nc.out.lt)
  clear hy
  go_wp2_with fail
  refine (awake_any V2 (HE.out.below K.out)).mono ?_
  rintro e V3 ⟨rfl, hy⟩
  replace K := Lib.hid (K.out.trans (hy.mono K.out.size))
  replace N := Lib.hid (N.out.below hy N.out.lt)
  replace Nb := Lib.hid (Nb.out.below hy Nb.out.lt)
  replace Nc := Lib.hid (Nc.out.below hy Nc.out.lt)
  clear hy
  go_wp2
  go_ret
  exact ⟨rfl, K.out⟩
set_option maxRecDepth 100000 in
set_option maxHeartbeats 8000000 in
theorem ord_nb (a b c : Fl) (ha : a.Fit) (hb : b.Fit) (hc : c.Fit) (w : World) (hE : Env w) (va : vK a = true) (vb : vK b = false) :
    Calls Tryd.prog 6 #[.agg a.cs, .agg b.cs, .agg c.cs] w fun e w' => e = .returned (.bool true) ∧ Below w.heap.size w w' := by
  have K := Lib.hid (Below.refl w.heap.size w)
  have HE := Lib.hid hE
  have IK := Lib.hid (fl_ik a ha)
  have IKb := Lib.hid (fl_ik b hb)
  have IKc := Lib.hid (fl_ik c hc)
  have VA := Lib.hid (fun W => rvalid_any a ha W)
  have VB := Lib.hid (fun W => rvalid_any b hb W)
  have VC := Lib.hid (fun W => rvalid_any c hc W)
  rw [va] at VA
  rw [vb] at VB
  clear va vb ha hb hc hE
  generalize a.cs = kc at *
  generalize b.cs = kcb at *
  generalize c.cs = kcc at *
  go_enter Tryd.func6, Tryd.ntmps6
  have hal := (Below.refl w.heap.size w).alloc (Nat.le_refl _) (.cells kc 27)
  replace K := Lib.hid (K.out.trans (hal.mono K.out.size))
  have N := Lib.hid (Blk.new w 27 kc)
  clear hal
  have hal := (Below.refl (w.alloc (.cells kc 27)).heap.size (w.alloc (.cells kc 27))).alloc (Nat.le_refl _) (.cells kcb 27)
  replace K := Lib.hid (K.out.trans (hal.mono K.out.size))
  replace N := Lib.hid (N.out.below hal N.out.lt)
  have Nbq := Blk.new (w.alloc (.cells kc 27)) 27 kcb
  simp only [World.size_alloc] at Nbq
  have Nb := Lib.hid Nbq
  clear Nbq
  clear hal
  have hal := (Below.refl ((w.alloc (.cells kc 27)).alloc (.cells kcb 27)).heap.size ((w.alloc (.cells kc 27)).alloc (.cells kcb 27))).alloc (Nat.le_refl _) (.cells kcc 27)
  replace K := Lib.hid (K.out.trans (hal.mono K.out.size))
  replace N := Lib.hid (N.out.below hal N.out.lt)
  replace Nb := Lib.hid (Nb.out.below hal Nb.out.lt)
  have Ncq := Blk.new ((w.alloc (.cells kc 27)).alloc (.cells kcb 27)) 27 kcc
  simp only [World.size_alloc] at Ncq
  have Nc := Lib.hid Ncq
  clear Ncq
  clear hal
  have L2 : (loadVar 27 ⟨w.heap.size, 0, none⟩).run Tryd.prog (((w.alloc (.cells kc 27)).alloc (.cells kcb 27)).alloc (.cells kcc 27)) = .ok (.agg kc) (((w.alloc (.cells kc 27)).alloc (.cells kcb 27)).alloc (.cells kcc 27)) := run_blk_load (P := Tryd.prog) 27 (w.heap.size) _ N.out Tryd.underlying27 rfl IK.out
  replace L2 := Lib.hid L2
  go_wp2_with (((with_reducible refine wpList_load_want (op := ⟨some 12, .load 27 (.tmp 3), _, _, _, _⟩) ?wg2 27 (.tmp 3) ?wo2 ⟨w.heap.size, 0, none⟩ ?wx2 (.agg kc) L2.out ?_); (case wg2 => rfl); (case wo2 => rfl); (case wx2 => rfl)))
  clear L2
  have hzV1 : Hid ((((w.alloc (.cells kc 27)).alloc (.cells kcb 27)).alloc (.cells kcc 27)).heap.size = w.heap.size + 1 + 1 + 1) := by show _ = _; simp only [World.size_alloc]
  generalize (((w.alloc (.cells kc 27)).alloc (.cells kcb 27)).alloc (.cells kcc 27)) = V1 at *
  refine (VA.out V1).mono ?_
  rintro e V2 ⟨rfl, hy⟩
  replace K := Lib.hid (K.out.trans (hy.mono K.out.size))
  replace N := Lib.hid (N.out.below hy N.out.lt)
  replace Nb := Lib.hid (Nb.out.below hy Nb.out.lt)
  replace Nc := Lib.hid (Nc.out.below hy Nc.out.lt)
  clear hy
  have L3 : (loadVar 27 ⟨w.heap.size + 1, 0, none⟩).run Tryd.prog V2 = .ok (.agg kcb) V2 := run_blk_load (P := Tryd.prog) 27 (w.heap.size + 1) _ Nb.out Tryd.underlying27 rfl IKb.out
  replace L3 := Lib.hid L3
  go_wp2_with (((with_reducible refine wpList_load_want (op := ⟨some 16, .load 27 (.tmp 4), _, _, _, _⟩) ?wg3 27 (.tmp 4) ?wo3 ⟨w.heap.size + 1, 0, none⟩ ?wx3 (.agg kcb) L3.out ?_); (case wg3 => rfl); (case wo3 => rfl); (case wx3 => rfl)))
  clear L3
  refine (VB.out V2).mono ?_
  rintro e V3 ⟨rfl, hy⟩
  replace K := Lib.hid (K.out.trans (hy.mono K.out.size))
  replace N := Lib.hid (N.out.below hy N.out.lt)
  replace Nb := Lib.hid (Nb.out.below hy Nb.out.lt)
  replace Nc := Lib.hid (Nc.out.below hy Nc.out.lt)
  clear hy
  go_wp2_with fail
  refine (awake_any V3 (HE.out.below K.out)).mono ?_
  rintro e V4 ⟨rfl, hy⟩
  replace K := Lib.hid (K.out.trans (hy.mono K.out.size))
  replace N := Lib.hid (N.out.below hy N.out.lt)
  replace Nb := Lib.hid (Nb.out.below hy Nb.out.lt)
  replace Nc := Lib.hid (Nc.out.below hy Nc.out.lt)
  clear hy
  go_wp2
  go_ret
  exact ⟨rfl, K.out⟩
set_option maxRecDepth 100000 in
set_option maxHeartbeats 8000000 in
theorem ord_nc (a b c : Fl) (ha : a.Fit) (hb : b.Fit) (hc : c.Fit) (w : World) (hE : Env w) (va : vK a = true) (vb : vK b = true) (vc : vK c = false) :
    Calls Tryd.prog 6 #[.agg a.cs, .agg b.cs, .agg c.cs] w fun e w' => e = .returned (.bool true) ∧ Below w.heap.size w w' := by
  have K := Lib.hid (Below.refl w.heap.size w)
  have HE := Lib.hid hE
  have IK := Lib.hid (fl_ik a ha)
  have IKb := Lib.hid (fl_ik b hb)
  have IKc := Lib.hid (fl_ik c hc)
  have VA := Lib.hid (fun W => rvalid_any a ha W)
  have VB := Lib.hid (fun W => rvalid_any b hb W)
  have VC := Lib.hid (fun W => rvalid_any c hc W)
  rw [va] at VA
  rw [vb] at VB
  rw [vc] at VC
  clear va vb vc ha hb hc hE
  generalize a.cs = kc at *
  generalize b.cs = kcb at *
  generalize c.cs = kcc at *
  go_enter Tryd.func6, Tryd.ntmps6
  have hal := (Below.refl w.heap.size w).alloc (Nat.le_refl _) (.cells kc 27)
  replace K := Lib.hid (K.out.trans (hal.mono K.out.size))
  have N := Lib.hid (Blk.new w 27 kc)
  clear hal
  have hal := (Below.refl (w.alloc (.cells kc 27)).heap.size (w.alloc (.cells kc 27))).alloc (Nat.le_refl _) (.cells kcb 27)
  replace K := Lib.hid (K.out.trans (hal.mono K.out.size))
  replace N := Lib.hid (N.out.below hal N.out.lt)
  have Nbq := Blk.new (w.alloc (.cells kc 27)) 27 kcb
  simp only [World.size_alloc] at Nbq
  have Nb := Lib.hid Nbq
  clear Nbq
  clear hal
  have hal := (Below.refl ((w.alloc (.cells kc 27)).alloc (.cells kcb 27)).heap.size ((w.alloc (.cells kc 27)).alloc (.cells kcb 27))).alloc (Nat.le_refl _) (.cells kcc 27)
  replace K := Lib.hid (K.out.trans (hal.mono K.out.size))
  replace N := Lib.hid (N.out.below hal N.out.lt)
  replace Nb := Lib.hid (Nb.out.below hal Nb.out.lt)
  have Ncq := Blk.new ((w.alloc (.cells kc 27)).alloc (.cells kcb 27)) 27 kcc
  simp only [World.size_alloc] at Ncq
  have Nc := Lib.hid Ncq
  clear Ncq
  clear hal
  have L4 : (loadVar 27 ⟨w.heap.size, 0, none⟩).run Tryd.prog (((w.alloc (.cells kc 27)).alloc (.cells kcb 27)).alloc (.cells kcc 27)) = .ok (.agg kc) (((w.alloc (.cells kc 27)).alloc (.cells kcb 27)).alloc (.cells kcc 27)) := run_blk_load (P := Tryd.prog) 27 (w.heap.size) _ N.out Tryd.underlying27 rfl IK.out
  replace L4 := Lib.hid L4
  go_wp2_with (((with_reducible refine wpList_load_want (op := ⟨some 12, .load 27 (.tmp 3), _, _, _, _⟩) ?wg4 27 (.tmp 3) ?wo4 ⟨w.heap.size, 0, none⟩ ?wx4 (.agg kc) L4.out ?_); (case wg4 => rfl); (case wo4 => rfl); (case wx4 => rfl)))
  clear L4
  have hzV1 : Hid ((((w.alloc (.cells kc 27)).alloc (.cells kcb 27)).alloc (.cells kcc 27)).heap.size = w.heap.size + 1 + 1 + 1) := by show _ = _; simp only [World.size_alloc]
  generalize (((w.alloc (.cells kc 27)).alloc (.cells kcb 27)).alloc (.cells kcc 27)) = V1 at *
  refine (VA.out V1).mono ?_
  rintro e V2 ⟨rfl, hy⟩
  replace K := Lib.hid (K.out.trans (hy.mono K.out.size))
  replace N := Lib.hid (N.out.below hy N.out.lt)
  replace Nb := Lib.hid (Nb.out.below hy Nb.out.lt)
  replace Nc := Lib.hid (Nc.out.below hy Nc.out.lt)
  clear hy
  have L5 : (loadVar 27 ⟨w.heap.size + 1, 0, none⟩).run Tryd.prog V2 = .ok (.agg kcb) V2 := run_blk_load (P := Tryd.prog) 27 (w.heap.size + 1) _ Nb.out Tryd.underlying27 rfl IKb.out
  replace L5 := Lib.hid L5
  go_wp2_with (((with_reducible refine wpList_load_want (op := ⟨some 16, .load 27 (.tmp 4), _, _, _, _⟩) ?wg5 27 (.tmp 4) ?wo5 ⟨w.heap.size + 1, 0, none⟩ ?wx5 (.agg kcb) L5.out ?_); (case wg5 => rfl); (case wo5 => rfl); (case wx5 => rfl)))
  clear L5
  refine (VB.out V2).mono ?_
  rintro e V3 ⟨rfl, hy⟩
  replace K := Lib.hid (K.out.trans (hy.mono K.out.size))
  replace N := Lib.hid (N.out.below hy N.out.lt)
  replace Nb := Lib.hid (Nb.out.below hy Nb.out.lt)
  replace Nc := Lib.hid (Nc.out.below hy Nc.out.lt)
  clear hy
  have L6 : (loadVar 27 ⟨w.heap.size + 2, 0, none⟩).run Tryd.prog V3 = .ok (.agg kcc) V3 := run_blk_load (P := Tryd.prog) 27 (w.heap.size + 2) _ Nc.out Tryd.underlying27 rfl IKc.out
  replace L6 := Lib.hid L6
  go_wp2_with (((with_reducible refine wpList_load_want (op := ⟨some 21, .load 27 (.tmp 5), _, _, _, _⟩) ?wg6 27 (.tmp 5) ?wo6 ⟨w.heap.size + 2, 0, none⟩ ?wx6 (.agg kcc) L6.out ?_); (case wg6 => rfl); (case wo6 => rfl); (case wx6 => rfl)))
  clear L6
  refine (VC.out V3).mono ?_
  rintro e V4 ⟨rfl, hy⟩
  replace K := Lib.hid (K.out.trans (hy.mono K.out.size))
  replace N := Lib.hid (N.out.below hy N.out.lt)
  replace Nb := Lib.hid (Nb.out.below hy Nb.out.lt)
  replace Nc := Lib.hid (Nc.out.below hy Nc.out.lt)
  clear hy
  go_wp2_with fail
  refine (awake_any V4 (HE.out.below K.out)).mono ?_
  rintro e V5 ⟨rfl, hy⟩
  replace K := Lib.hid (K.out.trans (hy.mono K.out.size))
  replace N := Lib.hid (N.out.below hy N.out.lt)
  replace Nb := Lib.hid (Nb.out.below hy Nb.out.lt)
  replace Nc := Lib.hid (Nc.out.below hy Nc.out.lt)
  clear hy
  go_wp2
  go_ret
  exact ⟨rfl, K.out⟩
set_option maxRecDepth 100000 in
set_option maxHeartbeats 8000000 in
theorem ord_all (a b c : Fl) (ha : a.Fit) (hb : b.Fit) (hc : c.Fit) (w : World) (hE : Env w) (va : vK a = true) (vb : vK b = true) (vc : vK c = true) :
    Calls Tryd.prog 6 #[.agg a.cs, .agg b.cs, .agg c.cs] w fun e w' => e = .returned (.bool true) ∧ Below w.heap.size w w' := by
  have K := Lib.hid (Below.refl w.heap.size w)
  have HE := Lib.hid hE
  have IK := Lib.hid (fl_ik a ha)
  have IKb := Lib.hid (fl_ik b hb)
  have IKc := Lib.hid (fl_ik c hc)
  have VA := Lib.hid (fun W => rvalid_any a ha W)
  have VB := Lib.hid (fun W => rvalid_any b hb W)
  have VC := Lib.hid (fun W => rvalid_any c hc W)
  rw [va] at VA
  rw [vb] at VB
  rw [vc] at VC
  have B1 := Lib.hid (fun W => kbytes_any a ha W)
  have B2 := Lib.hid (fun W => kbytes_any b hb W)
  have C1 := Lib.hid (fun W => kcmp_any a b ha hb W)
  have C2 := Lib.hid (fun W => kcmp_any b c hb hc W)
  have C3 := Lib.hid (fun W => kcmp_any a c ha hc W)
  have r1 := cmpN_range (bK a) (bK b)
  have r2 := cmpN_range (bK b) (bK c)
  have r3 := cmpN_range (bK a) (bK c)
  have t1 := cmpN_trans (bK a) (bK b) (bK c)
  have t2 := cmpN_trans (bK c) (bK b) (bK a)
  rw [cmpN_neg (bK b) (bK c), cmpN_neg (bK a) (bK b), cmpN_neg (bK a) (bK c)] at t2
  have hl := str_less (bK a) (bK b)
  have he := str_eq (bK a) (bK b)
  generalize cmpN (bK a) (bK b) = x at *
  generalize cmpN (bK b) (bK c) = y at *
  generalize cmpN (bK a) (bK c) = z at *
  have HX : Hid ((-1 ≤ x ∧ x ≤ 1) ∧ (-1 ≤ y ∧ y ≤ 1) ∧ (-1 ≤ z ∧ z ≤ 1) ∧ (x ≤ 0 → y ≤ 0 → z ≤ 0) ∧ (-y ≤ 0 → -x ≤ 0 → -z ≤ 0)) := ⟨r1, r2, r3, t1, t2⟩
  generalize hSA : str (bK a) = SA at *
  generalize hSB : str (bK b) = SB at *
  have HSA := Lib.hid hSA
  have HSB := Lib.hid hSB
  have HL := Lib.hid hl
  have HQ := Lib.hid he
  clear hSA hSB hl he r1 r2 r3 t1 t2
  generalize bK a = BA at *
  generalize bK b = BB at *
  clear ha hb hc hE va vb vc
  generalize a.cs = kc at *
  generalize b.cs = kcb at *
  generalize c.cs = kcc at *
  go_enter Tryd.func6, Tryd.ntmps6
  have hal := (Below.refl w.heap.size w).alloc (Nat.le_refl _) (.cells kc 27)
  replace K := Lib.hid (K.out.trans (hal.mono K.out.size))
  have N := Lib.hid (Blk.new w 27 kc)
  clear hal
  have hal := (Below.refl (w.alloc (.cells kc 27)).heap.size (w.alloc (.cells kc 27))).alloc (Nat.le_refl _) (.cells kcb 27)
  replace K := Lib.hid (K.out.trans (hal.mono K.out.size))
  replace N := Lib.hid (N.out.below hal N.out.lt)
  have Nbq := Blk.new (w.alloc (.cells kc 27)) 27 kcb
  simp only [World.size_alloc] at Nbq
  have Nb := Lib.hid Nbq
  clear Nbq
  clear hal
  have hal := (Below.refl ((w.alloc (.cells kc 27)).alloc (.cells kcb 27)).heap.size ((w.alloc (.cells kc 27)).alloc (.cells kcb 27))).alloc (Nat.le_refl _) (.cells kcc 27)
  replace K := Lib.hid (K.out.trans (hal.mono K.out.size))
  replace N := Lib.hid (N.out.below hal N.out.lt)
  replace Nb := Lib.hid (Nb.out.below hal Nb.out.lt)
  have Ncq := Blk.new ((w.alloc (.cells kc 27)).alloc (.cells kcb 27)) 27 kcc
  simp only [World.size_alloc] at Ncq
  have Nc := Lib.hid Ncq
  clear Ncq
  clear hal
  have L7 : (loadVar 27 ⟨w.heap.size, 0, none⟩).run Tryd.prog (((w.alloc (.cells kc 27)).alloc (.cells kcb 27)).alloc (.cells kcc 27)) = .ok (.agg kc) (((w.alloc (.cells kc 27)).alloc (.cells kcb 27)).alloc (.cells kcc 27)) := run_blk_load (P := Tryd.prog) 27 (w.heap.size) _ N.out Tryd.underlying27 rfl IK.out
  replace L7 := Lib.hid L7
  go_wp2_with (((with_reducible refine wpList_load_want (op := ⟨some 12, .load 27 (.tmp 3), _, _, _, _⟩) ?wg7 27 (.tmp 3) ?wo7 ⟨w.heap.size, 0, none⟩ ?wx7 (.agg kc) L7.out ?_); (case wg7 => rfl); (case wo7 => rfl); (case wx7 => rfl)))
  clear L7
  have hzV1 : Hid ((((w.alloc (.cells kc 27)).alloc (.cells kcb 27)).alloc (.cells kcc 27)).heap.size = w.heap.size + 1 + 1 + 1) := by show _ = _; simp only [World.size_alloc]
  generalize (((w.alloc (.cells kc 27)).alloc (.cells kcb 27)).alloc (.cells kcc 27)) = V1 at *
  refine (VA.out V1).mono ?_
  rintro e V2 ⟨rfl, hy⟩
  replace K := Lib.hid (K.out.trans (hy.mono K.out.size))
  replace N := Lib.hid (N.out.below hy N.out.lt)
  replace Nb := Lib.hid (Nb.out.below hy Nb.out.lt)
  replace Nc := Lib.hid (Nc.out.below hy Nc.out.lt)
  clear hy
  have L8 : (loadVar 27 ⟨w.heap.size + 1, 0, none⟩).run Tryd.prog V2 = .ok (.agg kcb) V2 := run_blk_load (P := Tryd.prog) 27 (w.heap.size + 1) _ Nb.out Tryd.underlying27 rfl IKb.out
  replace L8 := Lib.hid L8
  go_wp2_with (((with_reducible refine wpList_load_want (op := ⟨some 16, .load 27 (.tmp 4), _, _, _, _⟩) ?wg8 27 (.tmp 4) ?wo8 ⟨w.heap.size + 1, 0, none⟩ ?wx8 (.agg kcb) L8.out ?_); (case wg8 => rfl); (case wo8 => rfl); (case wx8 => rfl)))
  clear L8
  refine (VB.out V2).mono ?_
  rintro e V3 ⟨rfl, hy⟩
  replace K := Lib.hid (K.out.trans (hy.mono K.out.size))
  replace N := Lib.hid (N.out.below hy N.out.lt)
  replace Nb := Lib.hid (Nb.out.below hy Nb.out.lt)
  replace Nc := Lib.hid (Nc.out.below hy Nc.out.lt)
  clear hy
  have L9 : (loadVar 27 ⟨w.heap.size + 2, 0, none⟩).run Tryd.prog V3 = .ok (.agg kcc) V3 := run_blk_load (P := Tryd.prog) 27 (w.heap.size + 2) _ Nc.out Tryd.underlying27 rfl IKc.out
  replace L9 := Lib.hid L9
  go_wp2_with (((with_reducible refine wpList_load_want (op := ⟨some 21, .load 27 (.tmp 5), _, _, _, _⟩) ?wg9 27 (.tmp 5) ?wo9 ⟨w.heap.size + 2, 0, none⟩ ?wx9 (.agg kcc) L9.out ?_); (case wg9 => rfl); (case wo9 => rfl); (case wx9 => rfl)))
  clear L9
  refine (VC.out V3).mono ?_
  rintro e V4 ⟨rfl, hy⟩
  replace K := Lib.hid (K.out.trans (hy.mono K.out.size))
  replace N := Lib.hid (N.out.below hy N.out.lt)
  replace Nb := Lib.hid (Nb.out.below hy Nb.out.lt)
  replace Nc := Lib.hid (Nc.out.below hy Nc.out.lt)
  clear hy
  go_wp2_with fail
  refine wp_region_held (S := (fun w' : World => Below (V4.heap.size) V4 w')) (by kernel_rfl) ?_
  change wpAnyH _ _ _ _ _ _ _ _ V4.drew
  have hy : Below V4.heap.size V4 V4.drew := (Below.refl _ _).drew
  have hE0 : Below (V4.heap.size) V4 V4.drew := (Below.refl _ _).drew
  clear hy
  generalize V4.drew = Y3x0 at hE0  ⊢
  have E0 := Lib.hid hE0
  clear hE0
  refine tkA 0 (.agg kc) ?_ E0.out ?_
  · (intro w1 hS; have hW := hS; exact exec_load 27 (.tmp 3) rfl _ rfl _ (run_blk_load (P := Tryd.prog) 27 (w.heap.size) _ (N.out.below hW N.out.lt) Tryd.underlying27 rfl IK.out))
  simp only [Act.put, tS1, tS2, tS3]
  refine tkA 1 (.agg kcb) ?_ E0.out ?_
  · (intro w1 hS; have hW := hS; exact exec_load 27 (.tmp 4) rfl _ rfl _ (run_blk_load (P := Tryd.prog) 27 (w.heap.size + 1) _ (Nb.out.below hW Nb.out.lt) Tryd.underlying27 rfl IKb.out))
  simp only [Act.put, tS1, tS2, tS3]
  refine tkA 3 (.agg kcb) ?_ E0.out ?_
  · (intro w1 hS; have hW := hS; exact exec_load 27 (.tmp 4) rfl _ rfl _ (run_blk_load (P := Tryd.prog) 27 (w.heap.size + 1) _ (Nb.out.below hW Nb.out.lt) Tryd.underlying27 rfl IKb.out))
  simp only [Act.put, tS1, tS2, tS3]
  refine tkA 4 (.agg kcc) ?_ E0.out ?_
  · (intro w1 hS; have hW := hS; exact exec_load 27 (.tmp 5) rfl _ rfl _ (run_blk_load (P := Tryd.prog) 27 (w.heap.size + 2) _ (Nc.out.below hW Nc.out.lt) Tryd.underlying27 rfl IKc.out))
  simp only [Act.put, tS1, tS2, tS3]
  refine tkA 6 (.agg kc) ?_ E0.out ?_
  · (intro w1 hS; have hW := hS; exact exec_load 27 (.tmp 3) rfl _ rfl _ (run_blk_load (P := Tryd.prog) 27 (w.heap.size) _ (N.out.below hW N.out.lt) Tryd.underlying27 rfl IK.out))
  simp only [Act.put, tS1, tS2, tS3]
  refine tkA 7 (.agg kcc) ?_ E0.out ?_
  · (intro w1 hS; have hW := hS; exact exec_load 27 (.tmp 5) rfl _ rfl _ (run_blk_load (P := Tryd.prog) 27 (w.heap.size + 2) _ (Nc.out.below hW Nc.out.lt) Tryd.underlying27 rfl IKc.out))
  simp only [Act.put, tS1, tS2, tS3]
  refine tkO 2 (fun KK hK => ?_)
  go_simp
  refine (C1.out Y3x0).mono ?_
  rintro e Y3x1 ⟨rfl, hy⟩
  have E1 := Lib.hid (E0.out.trans (hy.mono E0.out.size))
  have C1 := Lib.hid E1.out
  clear hy E0
  refine hK.out _ _ C1.out (fun _ => ?_)
  clear hK KK
  refine wpAnyH_mono (S' := (fun w' : World => Below Y3x1.heap.size Y3x1 w')) (fun w1 h => C1.out.trans (h.mono C1.out.size)) _ _ _ _ ?_
  clear C1
  try simp only [Act.put, tS1, tS2, tS3]
  refine tkO 5 (fun KK hK => ?_)
  go_simp
  refine (C2.out Y3x1).mono ?_
  rintro e Y3x2 ⟨rfl, hy⟩
  have E2 := Lib.hid (E1.out.trans (hy.mono E1.out.size))
  have C2 := Lib.hid hy
  clear hy E1
  refine hK.out _ _ C2.out (fun _ => ?_)
  clear hK KK
  refine wpAnyH_mono (S' := (fun w' : World => Below Y3x2.heap.size Y3x2 w')) (fun w1 h => C2.out.trans (h.mono C2.out.size)) _ _ _ _ ?_
  clear C2
  try simp only [Act.put, tS1, tS2, tS3]
  refine tkO 8 (fun KK hK => ?_)
  go_simp
  refine (C3.out Y3x2).mono ?_
  rintro e Y3x3 ⟨rfl, hy⟩
  have E3 := Lib.hid (E2.out.trans (hy.mono E2.out.size))
  have C3 := Lib.hid hy
  clear hy E2
  refine hK.out _ _ C3.out (fun _ => ?_)
  clear hK KK
  refine wpAnyH_mono (S' := (fun w' : World => Below Y3x3.heap.size Y3x3 w')) (fun w1 h => C3.out.trans (h.mono C3.out.size)) _ _ _ _ ?_
  clear C3
  try simp only [Act.put, tS1, tS2, tS3]
  refine tkA 9 (?_) ?_ (Below.refl _ _) ?_
  rotate_left
  · (intro w1 hS; go_simp; try with_reducible rfl)
  simp only [Act.put, tS1, tS2, tS3]
  refine tkA 10 (?_) ?_ (Below.refl _ _) ?_
  rotate_left
  · (intro w1 hS; go_simp; try with_reducible rfl)
  simp only [Act.put, tS1, tS2, tS3]
  refine tkA 11 (?_) ?_ (Below.refl _ _) ?_
  rotate_left
  · (intro w1 hS; go_simp; try with_reducible rfl)
  simp only [Act.put, tS1, tS2, tS3]
  refine wpAnyH_done (by kernel_rfl) ?_ _
  have hy := E3.out
  replace K := Lib.hid (K.out.trans (hy.mono K.out.size))
  replace N := Lib.hid (N.out.below hy N.out.lt)
  replace Nb := Lib.hid (Nb.out.below hy Nb.out.lt)
  replace Nc := Lib.hid (Nc.out.below hy Nc.out.lt)
  clear hy E3
  go_upto_region 4 with fail
  go_cut [64] (fun v wx => v = .bool false ∧ wx = Y3x3)
  case first =>
    obtain ⟨⟨x1, x2⟩, ⟨y1, y2⟩, ⟨z1, z2⟩, t1, t2⟩ := HX.out
    have cx : x = -1 ∨ x = 0 ∨ x = 1 := by omega
    have cy : y = -1 ∨ y = 0 ∨ y = 1 := by omega
    have cz : z = -1 ∨ z = 0 ∨ z = 1 := by omega
    clear HX HL HQ
    rcases cx with rfl | rfl | rfl <;> rcases cy with rfl | rfl | rfl <;> rcases cz with rfl | rfl | rfl <;> first
      | (exfalso; omega; done)
      | (clear x1 x2 y1 y2 z1 z2 t1 t2; go_wp2; go_meet; exact ⟨rfl, rfl⟩)
  case rest =>
    obtain ⟨rfl, hw⟩ := hcut
    have hw := hw.symm
    subst hw
    obtain ⟨⟨x1, x2⟩, -⟩ := HX.out
    clear HX
    go_wp2_with fail
    refine wp_region_held (S := (fun w' : World => Below (Y3x3.heap.size) Y3x3 w')) (by kernel_rfl) ?_
    change wpAnyH _ _ _ _ _ _ _ _ Y3x3.drew
    have hy : Below Y3x3.heap.size Y3x3 Y3x3.drew := (Below.refl _ _).drew
    have hE0 : Below (Y3x3.heap.size) Y3x3 Y3x3.drew := (Below.refl _ _).drew
    clear hy
    generalize Y3x3.drew = Y6x0 at hE0  ⊢
    have E0 := Lib.hid hE0
    clear hE0
    refine tkA 0 (.agg kc) ?_ E0.out ?_
    · (intro w1 hS; have hW := hS; exact exec_load 27 (.tmp 3) rfl _ rfl _ (run_blk_load (P := Tryd.prog) 27 (w.heap.size) _ (N.out.below hW N.out.lt) Tryd.underlying27 rfl IK.out))
    simp only [Act.put, tS1, tS2, tS3]
    refine tkA 3 (.agg kcb) ?_ E0.out ?_
    · (intro w1 hS; have hW := hS; exact exec_load 27 (.tmp 4) rfl _ rfl _ (run_blk_load (P := Tryd.prog) 27 (w.heap.size + 1) _ (Nb.out.below hW Nb.out.lt) Tryd.underlying27 rfl IKb.out))
    simp only [Act.put, tS1, tS2, tS3]
    refine tkO 1 (fun KK hK => ?_)
    go_simp
    refine (B1.out Y6x0).mono ?_
    rintro e Y6x1 ⟨x1q, rfl, r1q, hy⟩
    have E1 := Lib.hid (E0.out.trans (hy.mono E0.out.size))
    have C1 := Lib.hid E1.out
    have R1 := Lib.hid (r1q)
    clear r1q
    clear hy E0
    refine hK.out _ _ C1.out (fun _ => ?_)
    clear hK KK
    refine wpAnyH_mono (S' := (fun w' : World => Below Y6x1.heap.size Y6x1 w')) (fun w1 h => C1.out.trans (h.mono C1.out.size)) _ _ _ _ ?_
    clear C1
    try simp only [Act.put, tS1, tS2, tS3]
    refine tkA 2 (?_) ?_ (Below.refl _ _) ?_
    rotate_left
    · (intro w1 hS; have hW := E1.out.trans (hS.mono E1.out.size); have q := (conv_rd (P := Tryd.prog) w1 28 9 5 Tryd.underlying28 Tryd.underlying5 Tryd.underlying9 _ _ (R1.out.below hS)).trans (by rw [HSA.out]); clear hW hS; go_simp; try with_reducible rfl)
    simp only [Act.put, tS1, tS2, tS3]
    refine tkO 4 (fun KK hK => ?_)
    go_simp
    refine (B2.out Y6x1).mono ?_
    rintro e Y6x2 ⟨x2q, rfl, r2q, hy⟩
    replace R1 := Lib.hid (R1.out.below hy)
    have E2 := Lib.hid (E1.out.trans (hy.mono E1.out.size))
    have C2 := Lib.hid hy
    have R2 := Lib.hid (r2q)
    clear r2q
    clear hy E1
    refine hK.out _ _ C2.out (fun _ => ?_)
    clear hK KK
    refine wpAnyH_mono (S' := (fun w' : World => Below Y6x2.heap.size Y6x2 w')) (fun w1 h => C2.out.trans (h.mono C2.out.size)) _ _ _ _ ?_
    clear C2
    try simp only [Act.put, tS1, tS2, tS3]
    refine tkA 6 (?_) ?_ (Below.refl _ _) ?_
    rotate_left
    · (intro w1 hS; go_simp; try with_reducible rfl)
    simp only [Act.put, tS1, tS2, tS3]
    refine tkA 5 (?_) ?_ (Below.refl _ _) ?_
    rotate_left
    · (intro w1 hS; have hW := E2.out.trans (hS.mono E2.out.size); have q := (conv_rd (P := Tryd.prog) w1 28 9 5 Tryd.underlying28 Tryd.underlying5 Tryd.underlying9 _ _ (R2.out.below hS)).trans (by rw [HSB.out]); clear hW hS; go_simp; try with_reducible rfl)
    simp only [Act.put, tS1, tS2, tS3]
    refine tkA 7 (?_) ?_ (Below.refl _ _) ?_
    rotate_left
    · (intro w1 hS; go_simp; try with_reducible rfl)
    simp only [Act.put, tS1, tS2, tS3]
    refine wpAnyH_done (by kernel_rfl) ?_ _
    have hy := E2.out
    replace K := Lib.hid (K.out.trans (hy.mono K.out.size))
    replace N := Lib.hid (N.out.below hy N.out.lt)
    replace Nb := Lib.hid (Nb.out.below hy Nb.out.lt)
    replace Nc := Lib.hid (Nc.out.below hy Nc.out.lt)
    clear hy E2
    have cx : x = -1 ∨ x = 0 ∨ x = 1 := by omega
    have hl := HL.out
    have he := HQ.out
    clear x1 x2 HL HQ
    rcases cx with rfl | rfl | rfl
    · have hl : Op.bytesLess SA.toList SB.toList = true := hl
      have he : (SA.toList == SB.toList) = false := he
      go_wp2_with fail
      refine (awake_any Y6x2 (HE.out.below K.out)).mono ?_
      rintro e V5 ⟨rfl, hy⟩
      replace K := Lib.hid (K.out.trans (hy.mono K.out.size))
      replace N := Lib.hid (N.out.below hy N.out.lt)
      replace Nb := Lib.hid (Nb.out.below hy Nb.out.lt)
      replace Nc := Lib.hid (Nc.out.below hy Nc.out.lt)
      clear hy
      go_wp2
      go_ret
      exact ⟨rfl, K.out⟩
    · have hl : Op.bytesLess SA.toList SB.toList = false := hl
      have he : (SA.toList == SB.toList) = true := he
      go_wp2_with fail
      refine (awake_any Y6x2 (HE.out.below K.out)).mono ?_
      rintro e V5 ⟨rfl, hy⟩
      replace K := Lib.hid (K.out.trans (hy.mono K.out.size))
      replace N := Lib.hid (N.out.below hy N.out.lt)
      replace Nb := Lib.hid (Nb.out.below hy Nb.out.lt)
      replace Nc := Lib.hid (Nc.out.below hy Nc.out.lt)
      clear hy
      go_wp2
      go_ret
      exact ⟨rfl, K.out⟩
    · have hl : Op.bytesLess SA.toList SB.toList = false := hl
      have he : (SA.toList == SB.toList) = false := he
      go_wp2_with fail
      refine (awake_any Y6x2 (HE.out.below K.out)).mono ?_
      rintro e V5 ⟨rfl, hy⟩
      replace K := Lib.hid (K.out.trans (hy.mono K.out.size))
      replace N := Lib.hid (N.out.below hy N.out.lt)
      replace Nb := Lib.hid (Nb.out.below hy Nb.out.lt)
      replace Nc := Lib.hid (Nc.out.below hy Nc.out.lt)
      clear hy
      go_wp2
      go_ret
      exact ⟨rfl, K.out⟩
theorem ord_walk (a b c : Fl) (ha : a.Fit) (hb : b.Fit) (hc : c.Fit) (w : World) (hE : Env w) :
    Calls Tryd.prog 6 #[.agg a.cs, .agg b.cs, .agg c.cs] w fun e w' => e = .returned (.bool true) ∧ Below w.heap.size w w' := by
  cases va : vK a with
  | false => exact ord_na a b c ha hb hc w hE va
  | true =>
    cases vb : vK b with
    | false => exact ord_nb a b c ha hb hc w hE va vb
    | true =>
      cases vc : vK c with
      | false => exact ord_nc a b c ha hb hc w hE va vb vc
      | true => exact ord_all a b c ha hb hc w hE va vb vc
end Go.Proofs.YthkaadcgiplolaaDoor
