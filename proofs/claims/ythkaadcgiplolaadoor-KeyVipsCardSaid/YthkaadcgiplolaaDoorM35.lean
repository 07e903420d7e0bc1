/- Texts that the walks of this seat lean on, put together. -/
import Derived.Test.YthkaadcgiplolaaDoorTk
import Derived.Test.YthkaadcgiplolaaDoorM29
import Derived.Test.YthkaadcgiplolaaDoorM33
import Derived.Test.YthkaadcgiplolaaDoorM34
namespace Go.Proofs.YthkaadcgiplolaaDoor
open Go.RowKit
theorem wpList_built2 {P : Program} {ops : Array Oper} {rest : List Oper} {op : Oper} {a : Act} {w : World} {Q : Exit → Act → World → Prop} (hw : Region.wanted op (yielded ops a.tmps) = true) (t : TypeId) (parts : Array (Nat × Operand)) (ho : op.op = .build t parts)
    (vals : Array (Nat × Value)) (hv : (parts.map fun (i, x) => (i, a.eval x)) = vals) (cells : Array Value) (hf : P.built t vals.toList = some cells) (h : wpList P ops Q rest (a.put op.dst (.agg cells)) w) : wpList P ops Q (op :: rest) a w :=
  BigFrame.wpList_want hw fun K hK => by
    unfold Oper.wp
    simp only [exec_build t parts ho vals hv cells hf]
    exact hK _ _ h
def vcs (p : Nat) (D : Array Value) (q : Nat) : Array Value := (Value.int .u8 (p : Int) :: (D.toList ++ [.int .u16 (q : Int)])).toArray
theorem vcs_size (p : Nat) (D : Array Value) (q : Nat) (h : D.size = 17) : (vcs p D q).size = 19 := by simp [vcs, h]
theorem vcs_all (p : Nat) (D : Array Value) (q : Nat) (h : D.all (·.oneCell') = true) : (vcs p D q).all (·.oneCell') = true := by
  rw [Array.all_eq_true_iff_forall_mem] at *
  intro x hx
  simp only [vcs, List.mem_toArray, List.mem_cons, List.mem_append, Array.mem_toList_iff, List.not_mem_nil, or_false] at hx
  rcases hx with rfl | h' | rfl
  · rfl
  · exact h x h'
  · rfl
theorem i39 : (Tryd.prog.info? 39).map (·.size) = some 19 := by kernel_rfl
set_option maxRecDepth 100000 in
theorem vcs_built (p : Nat) (D : Array Value) (q : Nat) (h : D.size = 17) : Tryd.prog.built 39 #[(0, .int .u8 (p : Int)), (1, .agg D), (2, .int .u16 (q : Int))].toList = some (vcs p D q) := by
  obtain ⟨x0, x1, x2, x3, x4, x5, x6, x7, x8, x9, x10, x11, x12, x13, x14, x15, x16, rfl⟩ := cells17 D h
  kernel_rfl
def vipc (k : Fl) : Array Value := vcs k.p (cellsA k.dv k.D) k.dp
set_option maxRecDepth 100000 in
set_option maxHeartbeats 2000000 in
theorem kvip_any (k : Fl) (hk : k.Fit) (w : World) :
    Calls Tryd.prog 17 #[.agg k.cs] w fun e w' => e = .returned (.agg (vipc k)) ∧ Below w.heap.size w w' := by
  have K := Lib.hid (Below.refl w.heap.size w)
  unfold vipc
  have sD : (cellsA k.dv k.D).size = 17 := by rw [cellsA_size, hk.lD]
  have BV := Lib.hid (vcs_built k.p (cellsA k.dv k.D) k.dp sD)
  have YV : Hid ((vcs k.p (cellsA k.dv k.D) k.dp).size = Array.size (#[Value.int .u8 0, .bool false, .int .u8 0, .int .u8 0, .int .u8 0, .int .u8 0, .int .u8 0, .int .u8 0, .int .u8 0, .int .u8 0, .int .u8 0, .int .u8 0, .int .u8 0, .int .u8 0, .int .u8 0, .int .u8 0, .int .u8 0, .int .u8 0, .int .u16 0] : Array Value)) := vcs_size _ _ _ sD
  have QV := Lib.hid (i39.trans (congrArg some (vcs_size k.p (cellsA k.dv k.D) k.dp sD).symm))
  have AV := Lib.hid (vcs_all k.p (cellsA k.dv k.D) k.dp (cellsA_all _ _))
  obtain ⟨a0, a1, a18, a35, a36⟩ := fl_get k hk
  have G0 := Lib.hid a0
  have G1 := Lib.hid a1
  have G18 := Lib.hid a18
  have G35 := Lib.hid a35
  have G36 := Lib.hid a36
  have KP1 := Lib.hid (fl_src k)
  have KP2 := Lib.hid (fl_dst k hk)
  have IS := Lib.hid (fl_is k hk)
  have ID := Lib.hid (fl_id k hk)
  have IK := Lib.hid (fl_ik k hk)
  clear a0 a1 a18 a35 a36
  generalize vcs k.p (cellsA k.dv k.D) k.dp = vc at *
  generalize k.cs = kc at *
  generalize cellsA k.sv k.S = S at *
  generalize cellsA k.dv k.D = D at *
  generalize k.p = p at *
  generalize k.sv = sv at *
  generalize k.dv = dv at *
  generalize k.sp = sp at *
  generalize k.dp = dp at *
  clear hk sD
  go_enter Tryd.func17, Tryd.ntmps17
  have hal := (Below.refl w.heap.size w).alloc (Nat.le_refl _) (.cells kc 27)
  replace K := Lib.hid (K.out.trans (hal.mono K.out.size))
  have N := Lib.hid (Blk.new w 27 kc)
  clear hal
  have hal := (Below.refl (w.alloc (.cells kc 27)).heap.size (w.alloc (.cells kc 27))).alloc (Nat.le_refl _) (.cells #[Value.int .u8 0, .bool false, .int .u8 0, .int .u8 0, .int .u8 0, .int .u8 0, .int .u8 0, .int .u8 0, .int .u8 0, .int .u8 0, .int .u8 0, .int .u8 0, .int .u8 0, .int .u8 0, .int .u8 0, .int .u8 0, .int .u8 0, .int .u8 0, .int .u16 0] 39)
  replace K := Lib.hid (K.out.trans (hal.mono K.out.size))
  replace N := Lib.hid (N.out.below hal N.out.lt)
  have HTq := Blk.new (w.alloc (.cells kc 27)) 39 #[Value.int .u8 0, .bool false, .int .u8 0, .int .u8 0, .int .u8 0, .int .u8 0, .int .u8 0, .int .u8 0, .int .u8 0, .int .u8 0, .int .u8 0, .int .u8 0, .int .u8 0, .int .u8 0, .int .u8 0, .int .u8 0, .int .u8 0, .int .u8 0, .int .u16 0]
  simp only [World.size_alloc] at HTq
  have HT := Lib.hid HTq
  clear HTq
  clear hal
  have L1 := (N.out.cell 0).trans G0.out
  have L2 : (loadVar 24 ⟨w.heap.size, 18, none⟩).run Tryd.prog ((w.alloc (.cells kc 27)).alloc (.cells #[Value.int .u8 0, .bool false, .int .u8 0, .int .u8 0, .int .u8 0, .int .u8 0, .int .u8 0, .int .u8 0, .int .u8 0, .int .u8 0, .int .u8 0, .int .u8 0, .int .u8 0, .int .u8 0, .int .u8 0, .int .u8 0, .int .u8 0, .int .u8 0, .int .u16 0] 39)) = .ok (.agg D) ((w.alloc (.cells kc 27)).alloc (.cells #[Value.int .u8 0, .bool false, .int .u8 0, .int .u8 0, .int .u8 0, .int .u8 0, .int .u8 0, .int .u8 0, .int .u8 0, .int .u8 0, .int .u8 0, .int .u8 0, .int .u8 0, .int .u8 0, .int .u8 0, .int .u8 0, .int .u8 0, .int .u8 0, .int .u16 0] 39)) := by have h := run_part_load (P := Tryd.prog) 24 18 D.toList _ N.out KP2.out Tryd.underlying24 rfl ID.out; rwa [Array.toArray_toList] at h
  replace L2 := Lib.hid L2
  have L3 := (N.out.cell 36).trans G36.out
  go_wp2_with (first | ((with_reducible refine wpList_load_want (op := ⟨some 6, .load 24 (.tmp 5), _, _, _, _⟩) ?wg2 24 (.tmp 5) ?wo2 ⟨w.heap.size, 18, none⟩ ?wx2 (.agg D) L2.out ?_); (case wg2 => rfl); (case wo2 => rfl); (case wx2 => rfl)) | ((with_reducible refine wpList_built2 (op := ⟨some 9, .build 39 #[(0, Operand.tmp 4), (1, Operand.tmp 6), (2, Operand.tmp 8)], _, _, _, _⟩) ?wg9 39 #[(0, Operand.tmp 4), (1, Operand.tmp 6), (2, Operand.tmp 8)] ?wo9 #[(0, .int .u8 (p : Int)), (1, .agg D), (2, .int .u16 (dp : Int))] ?wv9 vc ?wf9 ?_); (case wg9 => rfl); (case wo9 => rfl); (case wv9 => kernel_rfl); (case wf9 => exact BV.out)) | ((with_reducible refine wpList_blk_store (op := ⟨none, .store 39 (.tmp 2) (.tmp 9), _, _, _, _⟩) ?sg4 39 (.tmp 2) (.tmp 9) ?so4 (w.heap.size + 1) vc ?sx4 ?sy4 HT.out YV.out QV.out AV.out ?_); (case sg4 => rfl); (case so4 => rfl); (case sx4 => rfl); (case sy4 => rfl)))
  clear L1 L2 L3
  intro V1 hA hF hB
  replace K := Lib.hid (K.out.trans (hB _ (by omega)))
  replace N := Lib.hid (show Blk _ _ _ _ from (hF _ (by omega)).trans N.out)
  replace HT := Lib.hid hA
  clear hA hF hB
  go_wp2
  have hrun := run_blk_load (P := Tryd.prog) 39 (w.heap.size + 1) _ HT.out Tryd.underlying39 rfl QV.out
  exact bodyPost_ret (results_cell 2 39 (w.heap.size + 1) _ Tryd.results17 rfl hrun) rfl ⟨rfl, K.out⟩
set_option maxRecDepth 100000 in
set_option maxHeartbeats 2000000 in
theorem rvip_any (k : Fl) (hk : k.Fit) (w : World) :
    Calls Tryd.prog 18 #[.agg k.cs] w fun e w' => e = .returned (.agg (vipc k)) ∧ Below w.heap.size w w' := by
  have K := Lib.hid (Below.refl w.heap.size w)
  unfold vipc
  have sD : (cellsA k.dv k.D).size = 17 := by rw [cellsA_size, hk.lD]
  have BV := Lib.hid (vcs_built k.p (cellsA k.dv k.D) k.dp sD)
  have YV : Hid ((vcs k.p (cellsA k.dv k.D) k.dp).size = Array.size (#[Value.int .u8 0, .bool false, .int .u8 0, .int .u8 0, .int .u8 0, .int .u8 0, .int .u8 0, .int .u8 0, .int .u8 0, .int .u8 0, .int .u8 0, .int .u8 0, .int .u8 0, .int .u8 0, .int .u8 0, .int .u8 0, .int .u8 0, .int .u8 0, .int .u16 0] : Array Value)) := vcs_size _ _ _ sD
  have QV := Lib.hid (i39.trans (congrArg some (vcs_size k.p (cellsA k.dv k.D) k.dp sD).symm))
  have AV := Lib.hid (vcs_all k.p (cellsA k.dv k.D) k.dp (cellsA_all _ _))
  obtain ⟨a0, a1, a18, a35, a36⟩ := fl_get k hk
  have G0 := Lib.hid a0
  have G1 := Lib.hid a1
  have G18 := Lib.hid a18
  have G35 := Lib.hid a35
  have G36 := Lib.hid a36
  have KP1 := Lib.hid (fl_src k)
  have KP2 := Lib.hid (fl_dst k hk)
  have IS := Lib.hid (fl_is k hk)
  have ID := Lib.hid (fl_id k hk)
  have IK := Lib.hid (fl_ik k hk)
  clear a0 a1 a18 a35 a36
  generalize vcs k.p (cellsA k.dv k.D) k.dp = vc at *
  generalize k.cs = kc at *
  generalize cellsA k.sv k.S = S at *
  generalize cellsA k.dv k.D = D at *
  generalize k.p = p at *
  generalize k.sv = sv at *
  generalize k.dv = dv at *
  generalize k.sp = sp at *
  generalize k.dp = dp at *
  clear hk sD
  go_enter Tryd.func18, Tryd.ntmps18
  have hal := (Below.refl w.heap.size w).alloc (Nat.le_refl _) (.cells kc 27)
  replace K := Lib.hid (K.out.trans (hal.mono K.out.size))
  have N := Lib.hid (Blk.new w 27 kc)
  clear hal
  have hal := (Below.refl (w.alloc (.cells kc 27)).heap.size (w.alloc (.cells kc 27))).alloc (Nat.le_refl _) (.cells #[Value.int .u8 0, .bool false, .int .u8 0, .int .u8 0, .int .u8 0, .int .u8 0, .int .u8 0, .int .u8 0, .int .u8 0, .int .u8 0, .int .u8 0, .int .u8 0, .int .u8 0, .int .u8 0, .int .u8 0, .int .u8 0, .int .u8 0, .int .u8 0, .int .u16 0] 39)
  replace K := Lib.hid (K.out.trans (hal.mono K.out.size))
  replace N := Lib.hid (N.out.below hal N.out.lt)
  have HTq := Blk.new (w.alloc (.cells kc 27)) 39 #[Value.int .u8 0, .bool false, .int .u8 0, .int .u8 0, .int .u8 0, .int .u8 0, .int .u8 0, .int .u8 0, .int .u8 0, .int .u8 0, .int .u8 0, .int .u8 0, .int .u8 0, .int .u8 0, .int .u8 0, .int .u8 0, .int .u8 0, .int .u8 0, .int .u16 0]
  simp only [World.size_alloc] at HTq
  have HT := Lib.hid HTq
  clear HTq
  clear hal
  have L5 := (N.out.cell 0).trans G0.out
  have L6 : (loadVar 24 ⟨w.heap.size, 18, none⟩).run Tryd.prog ((w.alloc (.cells kc 27)).alloc (.cells #[Value.int .u8 0, .bool false, .int .u8 0, .int .u8 0, .int .u8 0, .int .u8 0, .int .u8 0, .int .u8 0, .int .u8 0, .int .u8 0, .int .u8 0, .int .u8 0, .int .u8 0, .int .u8 0, .int .u8 0, .int .u8 0, .int .u8 0, .int .u8 0, .int .u16 0] 39)) = .ok (.agg D) ((w.alloc (.cells kc 27)).alloc (.cells #[Value.int .u8 0, .bool false, .int .u8 0, .int .u8 0, .int .u8 0, .int .u8 0, .int .u8 0, .int .u8 0, .int .u8 0, .int .u8 0, .int .u8 0, .int .u8 0, .int .u8 0, .int .u8 0, .int .u8 0, .int .u8 0, .int .u8 0, .int .u8 0, .int .u16 0] 39)) := by have h := run_part_load (P := Tryd.prog) 24 18 D.toList _ N.out KP2.out Tryd.underlying24 rfl ID.out; rwa [Array.toArray_toList] at h
  replace L6 := Lib.hid L6
  have L7 := (N.out.cell 36).trans G36.out
  go_wp2_with (first | ((with_reducible refine wpList_load_want (op := ⟨some 6, .load 24 (.tmp 5), _, _, _, _⟩) ?wg6 24 (.tmp 5) ?wo6 ⟨w.heap.size, 18, none⟩ ?wx6 (.agg D) L6.out ?_); (case wg6 => rfl); (case wo6 => rfl); (case wx6 => rfl)) | ((with_reducible refine wpList_built2 (op := ⟨some 9, .build 39 #[(0, Operand.tmp 4), (1, Operand.tmp 6), (2, Operand.tmp 8)], _, _, _, _⟩) ?wg9 39 #[(0, Operand.tmp 4), (1, Operand.tmp 6), (2, Operand.tmp 8)] ?wo9 #[(0, .int .u8 (p : Int)), (1, .agg D), (2, .int .u16 (dp : Int))] ?wv9 vc ?wf9 ?_); (case wg9 => rfl); (case wo9 => rfl); (case wv9 => kernel_rfl); (case wf9 => exact BV.out)) | ((with_reducible refine wpList_blk_store (op := ⟨none, .store 39 (.tmp 2) (.tmp 9), _, _, _, _⟩) ?sg8 39 (.tmp 2) (.tmp 9) ?so8 (w.heap.size + 1) vc ?sx8 ?sy8 HT.out YV.out QV.out AV.out ?_); (case sg8 => rfl); (case so8 => rfl); (case sx8 => rfl); (case sy8 => rfl)))
  clear L5 L6 L7
  intro V1 hA hF hB
  replace K := Lib.hid (K.out.trans (hB _ (by omega)))
  replace N := Lib.hid (show Blk _ _ _ _ from (hF _ (by omega)).trans N.out)
  replace HT := Lib.hid hA
  clear hA hF hB
  go_wp2
  have hrun := run_blk_load (P := Tryd.prog) 39 (w.heap.size + 1) _ HT.out Tryd.underlying39 rfl QV.out
  exact bodyPost_ret (results_cell 2 39 (w.heap.size + 1) _ Tryd.results18 rfl hrun) rfl ⟨rfl, K.out⟩
set_option maxRecDepth 100000 in
set_option maxHeartbeats 2000000 in
theorem kcmp_any (a b : Fl) (ha : a.Fit) (hb : b.Fit) (w : World) :
    Calls Tryd.prog 15 #[.agg a.cs, .agg b.cs] w fun e w' => e = .returned (.int .i64 (cmpN (bK a) (bK b))) ∧ Below w.heap.size w w' := by
  have K := Lib.hid (Below.refl w.heap.size w)
  have C1 := Lib.hid (fun W => kbytes_any a ha W)
  have C2 := Lib.hid (fun W => kbytes_any b hb W)
  have CC := Lib.hid (fun W x y (h1 : Rd W x (nus .u8 (bK a))) (h2 : Rd W y (nus .u8 (bK b))) => compare_any x y (bK a) (bK b) W h1 h2)
  have IK := Lib.hid (fl_ik a ha)
  have IKb := Lib.hid (fl_ik b hb)
  generalize cmpN (bK a) (bK b) = r at *
  generalize bK a = BA at *
  generalize bK b = BB at *
  generalize a.cs = kc at *
  generalize b.cs = kcb at *
  clear ha hb
  go_enter Tryd.func15, Tryd.ntmps15
  have hal := (Below.refl w.heap.size w).alloc (Nat.le_refl _) (.cells kc 27)
  replace K := Lib.hid (K.out.trans (hal.mono K.out.size))
  have N := Lib.hid (Blk.new w 27 kc)
  clear hal
  have hal := (Below.refl (w.alloc (.cells kc 27)).heap.size (w.alloc (.cells kc 27))).alloc (Nat.le_refl _) (.cells kcb 27)
  replace K := Lib.hid (K.out.trans (hal.mono K.out.size))
  replace N := Lib.hid (N.out.below hal N.out.lt)
  have Nbq := Blk.new (w.alloc (.cells kc 27)) 27 kcb
  simp only [World.size_alloc] at Nbq
  have Nb := Lib.hid Nbq
  clear Nbq
  clear hal
  go_wp2_with fail
  have hzV1 : Hid (((w.alloc (.cells kc 27)).alloc (.cells kcb 27)).heap.size = w.heap.size + 1 + 1) := by show _ = _; simp only [World.size_alloc]
  generalize ((w.alloc (.cells kc 27)).alloc (.cells kcb 27)) = V1 at *
  refine wp_region_held (S := (fun w' : World => Below (V1.heap.size) V1 w')) (by kernel_rfl) ?_
  change wpAnyH _ _ _ _ _ _ _ _ V1.drew
  have hy : Below V1.heap.size V1 V1.drew := (Below.refl _ _).drew
  have hE0 : Below (V1.heap.size) V1 V1.drew := (Below.refl _ _).drew
  clear hy
  generalize V1.drew = Y1x0 at hE0  ⊢
  have E0 := Lib.hid hE0
  clear hE0
  refine tkA 0 (.agg kc) ?_ E0.out ?_
  · (intro w1 hS; have hW := hS; exact exec_load 27 (.tmp 2) rfl _ rfl _ (run_blk_load (P := Tryd.prog) 27 (w.heap.size) _ (N.out.below hW N.out.lt) Tryd.underlying27 rfl IK.out))
  simp only [Act.put, tS1, tS2, tS3]
  refine tkA 2 (.agg kcb) ?_ E0.out ?_
  · (intro w1 hS; have hW := hS; exact exec_load 27 (.tmp 3) rfl _ rfl _ (run_blk_load (P := Tryd.prog) 27 (w.heap.size + 1) _ (Nb.out.below hW Nb.out.lt) Tryd.underlying27 rfl IKb.out))
  simp only [Act.put, tS1, tS2, tS3]
  refine tkO 1 (fun KK hK => ?_)
  go_simp
  refine (C1.out Y1x0).mono ?_
  rintro e Y1x1 ⟨x1, rfl, r1, hy⟩
  have E1 := Lib.hid (E0.out.trans (hy.mono E0.out.size))
  have C1 := Lib.hid E1.out
  have R1 := Lib.hid (r1)
  clear r1
  clear hy E0
  refine hK.out _ _ C1.out (fun _ => ?_)
  clear hK KK
  refine wpAnyH_mono (S' := (fun w' : World => Below Y1x1.heap.size Y1x1 w')) (fun w1 h => C1.out.trans (h.mono C1.out.size)) _ _ _ _ ?_
  clear C1
  try simp only [Act.put, tS1, tS2, tS3]
  refine tkO 3 (fun KK hK => ?_)
  go_simp
  refine (C2.out Y1x1).mono ?_
  rintro e Y1x2 ⟨x2, rfl, r2, hy⟩
  replace R1 := Lib.hid (R1.out.below hy)
  have E2 := Lib.hid (E1.out.trans (hy.mono E1.out.size))
  have C2 := Lib.hid hy
  have R2 := Lib.hid (r2)
  clear r2
  clear hy E1
  refine hK.out _ _ C2.out (fun _ => ?_)
  clear hK KK
  refine wpAnyH_mono (S' := (fun w' : World => Below Y1x2.heap.size Y1x2 w')) (fun w1 h => C2.out.trans (h.mono C2.out.size)) _ _ _ _ ?_
  clear C2
  try simp only [Act.put, tS1, tS2, tS3]
  refine tkO 4 (fun KK hK => ?_)
  go_simp
  refine (same_below (CC.out Y1x2 _ _ R1.out R2.out)).mono ?_
  rintro e Y1x3 ⟨rfl, hy⟩
  replace R1 := Lib.hid (R1.out.below hy)
  replace R2 := Lib.hid (R2.out.below hy)
  have E3 := Lib.hid (E2.out.trans (hy.mono E2.out.size))
  have C3 := Lib.hid hy
  clear hy E2
  refine hK.out _ _ C3.out (fun _ => ?_)
  clear hK KK
  refine wpAnyH_mono (S' := (fun w' : World => Below Y1x3.heap.size Y1x3 w')) (fun w1 h => C3.out.trans (h.mono C3.out.size)) _ _ _ _ ?_
  clear C3
  try simp only [Act.put, tS1, tS2, tS3]
  refine tkA 5 (?_) ?_ (Below.refl _ _) ?_
  rotate_left
  · (intro w1 hS; go_simp; try with_reducible rfl)
  simp only [Act.put, tS1, tS2, tS3]
  refine wpAnyH_done (by kernel_rfl) ?_ _
  have hy := E3.out
  replace K := Lib.hid (K.out.trans (hy.mono K.out.size))
  replace N := Lib.hid (N.out.below hy N.out.lt)
  replace Nb := Lib.hid (Nb.out.below hy Nb.out.lt)
  clear hy E3
  go_wp2
  go_ret
  exact ⟨rfl, K.out⟩
set_option maxRecDepth 100000 in
set_option maxHeartbeats 2000000 in
theorem rcmp_lt (a b : Fl) (ha : a.Fit) (hb : b.Fit) (hc : cmpN (bK a) (bK b) < 0) (w : World) :
    Calls Tryd.prog 16 #[.agg a.cs, .agg b.cs] w fun e w' => e = .returned (.int .i64 (-1)) ∧ Below w.heap.size w w' := by
  have K := Lib.hid (Below.refl w.heap.size w)
  have C1 := Lib.hid (fun W => rbytes_any a ha W)
  have C2 := Lib.hid (fun W => rbytes_any b hb W)
  have F1 := Lib.hid (fun W x (h : Rd W x (nus .u8 (bK a))) => conv_rd (P := Tryd.prog) W 28 9 5 Tryd.underlying28 Tryd.underlying5 Tryd.underlying9 x (bK a) h)
  have F2 := Lib.hid (fun W x (h : Rd W x (nus .u8 (bK b))) => conv_rd (P := Tryd.prog) W 28 9 5 Tryd.underlying28 Tryd.underlying5 Tryd.underlying9 x (bK b) h)
  have hl : Op.bytesLess (str (bK a)).toList (str (bK b)).toList = true := by rw [str_less, decide_eq_true (by omega)]
  have he : ((str (bK a)).toList == (str (bK b)).toList) = false := by rw [str_eq, decide_eq_false (by omega)]
  have IK := Lib.hid (fl_ik a ha)
  have IKb := Lib.hid (fl_ik b hb)
  clear hc
  generalize str (bK a) = SA at *
  generalize str (bK b) = SB at *
  generalize bK a = BA at *
  generalize bK b = BB at *
  generalize a.cs = kc at *
  generalize b.cs = kcb at *
  clear ha hb
  go_enter Tryd.func16, Tryd.ntmps16
  have hal := (Below.refl w.heap.size w).alloc (Nat.le_refl _) (.cells kc 27)
  replace K := Lib.hid (K.out.trans (hal.mono K.out.size))
  have N := Lib.hid (Blk.new w 27 kc)
  clear hal
  have hal := (Below.refl (w.alloc (.cells kc 27)).heap.size (w.alloc (.cells kc 27))).alloc (Nat.le_refl _) (.cells kcb 27)
  replace K := Lib.hid (K.out.trans (hal.mono K.out.size))
  replace N := Lib.hid (N.out.below hal N.out.lt)
  have Nbq := Blk.new (w.alloc (.cells kc 27)) 27 kcb
  simp only [World.size_alloc] at Nbq
  have Nb := Lib.hid Nbq
  clear Nbq
  clear hal
  go_wp2_with fail
  have hzV1 : Hid (((w.alloc (.cells kc 27)).alloc (.cells kcb 27)).heap.size = w.heap.size + 1 + 1) := by show _ = _; simp only [World.size_alloc]
  generalize ((w.alloc (.cells kc 27)).alloc (.cells kcb 27)) = V1 at *
  refine wp_region_held (S := (fun w' : World => Below (V1.heap.size) V1 w')) (by kernel_rfl) ?_
  change wpAnyH _ _ _ _ _ _ _ _ V1.drew
  have hy : Below V1.heap.size V1 V1.drew := (Below.refl _ _).drew
  have hE0 : Below (V1.heap.size) V1 V1.drew := (Below.refl _ _).drew
  clear hy
  generalize V1.drew = Y1x0 at hE0  ⊢
  have E0 := Lib.hid hE0
  clear hE0
  refine tkA 0 (.agg kc) ?_ E0.out ?_
  · (intro w1 hS; have hW := hS; exact exec_load 27 (.tmp 2) rfl _ rfl _ (run_blk_load (P := Tryd.prog) 27 (w.heap.size) _ (N.out.below hW N.out.lt) Tryd.underlying27 rfl IK.out))
  simp only [Act.put, tS1, tS2, tS3]
  refine tkA 3 (.agg kcb) ?_ E0.out ?_
  · (intro w1 hS; have hW := hS; exact exec_load 27 (.tmp 3) rfl _ rfl _ (run_blk_load (P := Tryd.prog) 27 (w.heap.size + 1) _ (Nb.out.below hW Nb.out.lt) Tryd.underlying27 rfl IKb.out))
  simp only [Act.put, tS1, tS2, tS3]
  refine tkO 1 (fun KK hK => ?_)
  go_simp
  refine (C1.out Y1x0).mono ?_
  rintro e Y1x1 ⟨x1, rfl, r1, hy⟩
  have E1 := Lib.hid (E0.out.trans (hy.mono E0.out.size))
  have C1 := Lib.hid E1.out
  have R1 := Lib.hid (r1)
  clear r1
  clear hy E0
  refine hK.out _ _ C1.out (fun _ => ?_)
  clear hK KK
  refine wpAnyH_mono (S' := (fun w' : World => Below Y1x1.heap.size Y1x1 w')) (fun w1 h => C1.out.trans (h.mono C1.out.size)) _ _ _ _ ?_
  clear C1
  try simp only [Act.put, tS1, tS2, tS3]
  refine tkA 2 (?_) ?_ (Below.refl _ _) ?_
  rotate_left
  · (intro w1 hS; have hW := E1.out.trans (hS.mono E1.out.size); have q := F1.out w1 _ (R1.out.below hS); clear hW hS; go_simp; try with_reducible rfl)
  simp only [Act.put, tS1, tS2, tS3]
  refine tkO 4 (fun KK hK => ?_)
  go_simp
  refine (C2.out Y1x1).mono ?_
  rintro e Y1x2 ⟨x2, rfl, r2, hy⟩
  replace R1 := Lib.hid (R1.out.below hy)
  have E2 := Lib.hid (E1.out.trans (hy.mono E1.out.size))
  have C2 := Lib.hid hy
  have R2 := Lib.hid (r2)
  clear r2
  clear hy E1
  refine hK.out _ _ C2.out (fun _ => ?_)
  clear hK KK
  refine wpAnyH_mono (S' := (fun w' : World => Below Y1x2.heap.size Y1x2 w')) (fun w1 h => C2.out.trans (h.mono C2.out.size)) _ _ _ _ ?_
  clear C2
  try simp only [Act.put, tS1, tS2, tS3]
  refine tkA 6 (?_) ?_ (Below.refl _ _) ?_
  rotate_left
  · (intro w1 hS; go_simp; try with_reducible rfl)
  simp only [Act.put, tS1, tS2, tS3]
  refine tkA 5 (?_) ?_ (Below.refl _ _) ?_
  rotate_left
  · (intro w1 hS; have hW := E2.out.trans (hS.mono E2.out.size); have q := F2.out w1 _ (R2.out.below hS); clear hW hS; go_simp; try with_reducible rfl)
  simp only [Act.put, tS1, tS2, tS3]
  refine tkA 7 (?_) ?_ (Below.refl _ _) ?_
  rotate_left
  · (intro w1 hS; go_simp; try with_reducible rfl)
  simp only [Act.put, tS1, tS2, tS3]
  refine wpAnyH_done (by kernel_rfl) ?_ _
  have hy := E2.out
  replace K := Lib.hid (K.out.trans (hy.mono K.out.size))
  replace N := Lib.hid (N.out.below hy N.out.lt)
  replace Nb := Lib.hid (Nb.out.below hy Nb.out.lt)
  clear hy E2
  go_wp2
  go_ret
  exact ⟨rfl, K.out⟩
set_option maxRecDepth 100000 in
set_option maxHeartbeats 2000000 in
theorem rcmp_gt (a b : Fl) (ha : a.Fit) (hb : b.Fit) (hc : 0 < cmpN (bK a) (bK b)) (w : World) :
    Calls Tryd.prog 16 #[.agg a.cs, .agg b.cs] w fun e w' => e = .returned (.int .i64 1) ∧ Below w.heap.size w w' := by
  have K := Lib.hid (Below.refl w.heap.size w)
  have C1 := Lib.hid (fun W => rbytes_any a ha W)
  have C2 := Lib.hid (fun W => rbytes_any b hb W)
  have F1 := Lib.hid (fun W x (h : Rd W x (nus .u8 (bK a))) => conv_rd (P := Tryd.prog) W 28 9 5 Tryd.underlying28 Tryd.underlying5 Tryd.underlying9 x (bK a) h)
  have F2 := Lib.hid (fun W x (h : Rd W x (nus .u8 (bK b))) => conv_rd (P := Tryd.prog) W 28 9 5 Tryd.underlying28 Tryd.underlying5 Tryd.underlying9 x (bK b) h)
  have hl : Op.bytesLess (str (bK a)).toList (str (bK b)).toList = false := by rw [str_less, decide_eq_false (by omega)]
  have he : ((str (bK a)).toList == (str (bK b)).toList) = false := by rw [str_eq, decide_eq_false (by omega)]
  have IK := Lib.hid (fl_ik a ha)
  have IKb := Lib.hid (fl_ik b hb)
  clear hc
  generalize str (bK a) = SA at *
  generalize str (bK b) = SB at *
  generalize bK a = BA at *
  generalize bK b = BB at *
  generalize a.cs = kc at *
  generalize b.cs = kcb at *
  clear ha hb
  go_enter Tryd.func16, Tryd.ntmps16
  have hal := (Below.refl w.heap.size w).alloc (Nat.le_refl _) (.cells kc 27)
  replace K := Lib.hid (K.out.trans (hal.mono K.out.size))
  have N := Lib.hid (Blk.new w 27 kc)
  clear hal
  have hal := (Below.refl (w.alloc (.cells kc 27)).heap.size (w.alloc (.cells kc 27))).alloc (Nat.le_refl _) (.cells kcb 27)
  replace K := Lib.hid (K.out.trans (hal.mono K.out.size))
  replace N := Lib.hid (N.out.below hal N.out.lt)
  have Nbq := Blk.new (w.alloc (.cells kc 27)) 27 kcb
  simp only [World.size_alloc] at Nbq
  have Nb := Lib.hid Nbq
  clear Nbq
  clear hal
  go_wp2_with fail
  have hzV1 : Hid (((w.alloc (.cells kc 27)).alloc (.cells kcb 27)).heap.size = w.heap.size + 1 + 1) := by show _ = _; simp only [World.size_alloc]
  generalize ((w.alloc (.cells kc 27)).alloc (.cells kcb 27)) = V1 at *
  refine wp_region_held (S := (fun w' : World => Below (V1.heap.size) V1 w')) (by kernel_rfl) ?_
  change wpAnyH _ _ _ _ _ _ _ _ V1.drew
  have hy : Below V1.heap.size V1 V1.drew := (Below.refl _ _).drew
  have hE0 : Below (V1.heap.size) V1 V1.drew := (Below.refl _ _).drew
  clear hy
  generalize V1.drew = Y1x0 at hE0  ⊢
  have E0 := Lib.hid hE0
  clear hE0
  refine tkA 0 (.agg kc) ?_ E0.out ?_
  · (intro w1 hS; have hW := hS; exact exec_load 27 (.tmp 2) rfl _ rfl _ (run_blk_load (P := Tryd.prog) 27 (w.heap.size) _ (N.out.below hW N.out.lt) Tryd.underlying27 rfl IK.out))
  simp only [Act.put, tS1, tS2, tS3]
  refine tkA 3 (.agg kcb) ?_ E0.out ?_
  · (intro w1 hS; have hW := hS; exact exec_load 27 (.tmp 3) rfl _ rfl _ (run_blk_load (P := Tryd.prog) 27 (w.heap.size + 1) _ (Nb.out.below hW Nb.out.lt) Tryd.underlying27 rfl IKb.out))
  simp only [Act.put, tS1, tS2, tS3]
  refine tkO 1 (fun KK hK => ?_)
  go_simp
  refine (C1.out Y1x0).mono ?_
  rintro e Y1x1 ⟨x1, rfl, r1, hy⟩
  have E1 := Lib.hid (E0.out.trans (hy.mono E0.out.size))
  have C1 := Lib.hid E1.out
  have R1 := Lib.hid (r1)
  clear r1
  clear hy E0
  refine hK.out _ _ C1.out (fun _ => ?_)
  clear hK KK
  refine wpAnyH_mono (S' := (fun w' : World => Below Y1x1.heap.size Y1x1 w')) (fun w1 h => C1.out.trans (h.mono C1.out.size)) _ _ _ _ ?_
  clear C1
  try simp only [Act.put, tS1, tS2, tS3]
  refine tkA 2 (?_) ?_ (Below.refl _ _) ?_
  rotate_left
  · (intro w1 hS; have hW := E1.out.trans (hS.mono E1.out.size); have q := F1.out w1 _ (R1.out.below hS); clear hW hS; go_simp; try with_reducible rfl)
  simp only [Act.put, tS1, tS2, tS3]
  refine tkO 4 (fun KK hK => ?_)
  go_simp
  refine (C2.out Y1x1).mono ?_
  rintro e Y1x2 ⟨x2, rfl, r2, hy⟩
  replace R1 := Lib.hid (R1.out.below hy)
  have E2 := Lib.hid (E1.out.trans (hy.mono E1.out.size))
  have C2 := Lib.hid hy
  have R2 := Lib.hid (r2)
  clear r2
  clear hy E1
  refine hK.out _ _ C2.out (fun _ => ?_)
  clear hK KK
  refine wpAnyH_mono (S' := (fun w' : World => Below Y1x2.heap.size Y1x2 w')) (fun w1 h => C2.out.trans (h.mono C2.out.size)) _ _ _ _ ?_
  clear C2
  try simp only [Act.put, tS1, tS2, tS3]
  refine tkA 6 (?_) ?_ (Below.refl _ _) ?_
  rotate_left
  · (intro w1 hS; go_simp; try with_reducible rfl)
  simp only [Act.put, tS1, tS2, tS3]
  refine tkA 5 (?_) ?_ (Below.refl _ _) ?_
  rotate_left
  · (intro w1 hS; have hW := E2.out.trans (hS.mono E2.out.size); have q := F2.out w1 _ (R2.out.below hS); clear hW hS; go_simp; try with_reducible rfl)
  simp only [Act.put, tS1, tS2, tS3]
  refine tkA 7 (?_) ?_ (Below.refl _ _) ?_
  rotate_left
  · (intro w1 hS; go_simp; try with_reducible rfl)
  simp only [Act.put, tS1, tS2, tS3]
  refine wpAnyH_done (by kernel_rfl) ?_ _
  have hy := E2.out
  replace K := Lib.hid (K.out.trans (hy.mono K.out.size))
  replace N := Lib.hid (N.out.below hy N.out.lt)
  replace Nb := Lib.hid (Nb.out.below hy Nb.out.lt)
  clear hy E2
  go_wp2
  go_ret
  exact ⟨rfl, K.out⟩
set_option maxRecDepth 100000 in
set_option maxHeartbeats 2000000 in
theorem rcmp_eq (a b : Fl) (ha : a.Fit) (hb : b.Fit) (hc : cmpN (bK a) (bK b) = 0) (w : World) :
    Calls Tryd.prog 16 #[.agg a.cs, .agg b.cs] w fun e w' => e = .returned (.int .i64 0) ∧ Below w.heap.size w w' := by
  have K := Lib.hid (Below.refl w.heap.size w)
  have C1 := Lib.hid (fun W => rbytes_any a ha W)
  have C2 := Lib.hid (fun W => rbytes_any b hb W)
  have F1 := Lib.hid (fun W x (h : Rd W x (nus .u8 (bK a))) => conv_rd (P := Tryd.prog) W 28 9 5 Tryd.underlying28 Tryd.underlying5 Tryd.underlying9 x (bK a) h)
  have F2 := Lib.hid (fun W x (h : Rd W x (nus .u8 (bK b))) => conv_rd (P := Tryd.prog) W 28 9 5 Tryd.underlying28 Tryd.underlying5 Tryd.underlying9 x (bK b) h)
  have hl : Op.bytesLess (str (bK a)).toList (str (bK b)).toList = false := by rw [str_less, decide_eq_false (by omega)]
  have he : ((str (bK a)).toList == (str (bK b)).toList) = true := by rw [str_eq, decide_eq_true (by omega)]
  have IK := Lib.hid (fl_ik a ha)
  have IKb := Lib.hid (fl_ik b hb)
  clear hc
  generalize str (bK a) = SA at *
  generalize str (bK b) = SB at *
  generalize bK a = BA at *
  generalize bK b = BB at *
  generalize a.cs = kc at *
  generalize b.cs = kcb at *
  clear ha hb
  go_enter Tryd.func16, Tryd.ntmps16
  have hal := (Below.refl w.heap.size w).alloc (Nat.le_refl _) (.cells kc 27)
  replace K := Lib.hid (K.out.trans (hal.mono K.out.size))
  have N := Lib.hid (Blk.new w 27 kc)
  clear hal
  have hal := (Below.refl (w.alloc (.cells kc 27)).heap.size (w.alloc (.cells kc 27))).alloc (Nat.le_refl _) (.cells kcb 27)
  replace K := Lib.hid (K.out.trans (hal.mono K.out.size))
  replace N := Lib.hid (N.out.below hal N.out.lt)
  have Nbq := Blk.new (w.alloc (.cells kc 27)) 27 kcb
  simp only [World.size_alloc] at Nbq
  have Nb := Lib.hid Nbq
  clear Nbq
  clear hal
  go_wp2_with fail
  have hzV1 : Hid (((w.alloc (.cells kc 27)).alloc (.cells kcb 27)).heap.size = w.heap.size + 1 + 1) := by show _ = _; simp only [World.size_alloc]
  generalize ((w.alloc (.cells kc 27)).alloc (.cells kcb 27)) = V1 at *
  refine wp_region_held (S := (fun w' : World => Below (V1.heap.size) V1 w')) (by kernel_rfl) ?_
  change wpAnyH _ _ _ _ _ _ _ _ V1.drew
  have hy : Below V1.heap.size V1 V1.drew := (Below.refl _ _).drew
  have hE0 : Below (V1.heap.size) V1 V1.drew := (Below.refl _ _).drew
  clear hy
  generalize V1.drew = Y1x0 at hE0  ⊢
  have E0 := Lib.hid hE0
  clear hE0
  refine tkA 0 (.agg kc) ?_ E0.out ?_
  · (intro w1 hS; have hW := hS; exact exec_load 27 (.tmp 2) rfl _ rfl _ (run_blk_load (P := Tryd.prog) 27 (w.heap.size) _ (N.out.below hW N.out.lt) Tryd.underlying27 rfl IK.out))
  simp only [Act.put, tS1, tS2, tS3]
  refine tkA 3 (.agg kcb) ?_ E0.out ?_
  · (intro w1 hS; have hW := hS; exact exec_load 27 (.tmp 3) rfl _ rfl _ (run_blk_load (P := Tryd.prog) 27 (w.heap.size + 1) _ (Nb.out.below hW Nb.out.lt) Tryd.underlying27 rfl IKb.out))
  simp only [Act.put, tS1, tS2, tS3]
  refine tkO 1 (fun KK hK => ?_)
  go_simp
  refine (C1.out Y1x0).mono ?_
  rintro e Y1x1 ⟨x1, rfl, r1, hy⟩
  have E1 := Lib.hid (E0.out.trans (hy.mono E0.out.size))
  have C1 := Lib.hid E1.out
  have R1 := Lib.hid (r1)
  clear r1
  clear hy E0
  refine hK.out _ _ C1.out (fun _ => ?_)
  clear hK KK
  refine wpAnyH_mono (S' := (fun w' : World => Below Y1x1.heap.size Y1x1 w')) (fun w1 h => C1.out.trans (h.mono C1.out.size)) _ _ _ _ ?_
  clear C1
  try simp only [Act.put, tS1, tS2, tS3]
  refine tkA 2 (?_) ?_ (Below.refl _ _) ?_
  rotate_left
  · (intro w1 hS; have hW := E1.out.trans (hS.mono E1.out.size); have q := F1.out w1 _ (R1.out.below hS); clear hW hS; go_simp; try with_reducible rfl)
  simp only [Act.put, tS1, tS2, tS3]
  refine tkO 4 (fun KK hK => ?_)
  go_simp
  refine (C2.out Y1x1).mono ?_
  rintro e Y1x2 ⟨x2, rfl, r2, hy⟩
  replace R1 := Lib.hid (R1.out.below hy)
  have E2 := Lib.hid (E1.out.trans (hy.mono E1.out.size))
  have C2 := Lib.hid hy
  have R2 := Lib.hid (r2)
  clear r2
  clear hy E1
  refine hK.out _ _ C2.out (fun _ => ?_)
  clear hK KK
  refine wpAnyH_mono (S' := (fun w' : World => Below Y1x2.heap.size Y1x2 w')) (fun w1 h => C2.out.trans (h.mono C2.out.size)) _ _ _ _ ?_
  clear C2
  try simp only [Act.put, tS1, tS2, tS3]
  refine tkA 6 (?_) ?_ (Below.refl _ _) ?_
  rotate_left
  · (intro w1 hS; go_simp; try with_reducible rfl)
  simp only [Act.put, tS1, tS2, tS3]
  refine tkA 5 (?_) ?_ (Below.refl _ _) ?_
  rotate_left
  · (intro w1 hS; have hW := E2.out.trans (hS.mono E2.out.size); have q := F2.out w1 _ (R2.out.below hS); clear hW hS; go_simp; try with_reducible rfl)
  simp only [Act.put, tS1, tS2, tS3]
  refine tkA 7 (?_) ?_ (Below.refl _ _) ?_
  rotate_left
  · (intro w1 hS; go_simp; try with_reducible rfl)
  simp only [Act.put, tS1, tS2, tS3]
  refine wpAnyH_done (by kernel_rfl) ?_ _
  have hy := E2.out
  replace K := Lib.hid (K.out.trans (hy.mono K.out.size))
  replace N := Lib.hid (N.out.below hy N.out.lt)
  replace Nb := Lib.hid (Nb.out.below hy Nb.out.lt)
  clear hy E2
  go_wp2
  go_ret
  exact ⟨rfl, K.out⟩
theorem rcmp_any (a b : Fl) (ha : a.Fit) (hb : b.Fit) (w : World) :
    Calls Tryd.prog 16 #[.agg a.cs, .agg b.cs] w fun e w' => e = .returned (.int .i64 (cmpN (bK a) (bK b))) ∧ Below w.heap.size w w' := by
  have q := cmpN_range (bK a) (bK b)
  rcases Int.lt_trichotomy (cmpN (bK a) (bK b)) 0 with h | h | h
  · rw [show cmpN (bK a) (bK b) = -1 by omega]; exact rcmp_lt a b ha hb h w
  · rw [h]; exact rcmp_eq a b ha hb h w
  · rw [show cmpN (bK a) (bK b) = 1 by omega]; exact rcmp_gt a b ha hb h w
end Go.Proofs.YthkaadcgiplolaaDoor
