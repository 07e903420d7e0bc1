/- Texts that the walks of this seat lean on, put together. -/
import Derived.Lib.AppendZeros
import Derived.Lib.AppendZerosOnto
import Derived.Laws.AppendOwnNone
import Derived.BigFrame
import Derived.WalkKit
import Derived.LoopTactic
import Derived.Handy
import Derived.Test.YtblkpnjmmdbgnaaTk
import Derived.Test.YtblkpnjmmdbgnaaM01
import Derived.Test.YtblkpnjmmdbgnaaM06
import Derived.Test.YtblkpnjmmdbgnaaM13
import Derived.Test.YtblkpnjmmdbgnaaM16
import Derived.Test.YtblkpnjmmdbgnaaM20
import Derived.Test.YtblkpnjmmdbgnaaM26
import Derived.Test.YtblkpnjmmdbgnaaM27
import Derived.Test.YtblkpnjmmdbgnaaM31
namespace Go.Proofs.Ytblkpnjmmdbgnaa
open Go.RowKit
set_option maxRecDepth 100000 in
theorem fl_get (k : Fl) (h : k.Fit) : k.cs[0]? = some (.int .u8 (k.p : Int)) ∧ k.cs[1]? = some (.bool k.sv) ∧ k.cs[18]? = some (.bool k.dv) ∧ k.cs[35]? = some (.int .u16 (k.sp : Int)) ∧ k.cs[36]? = some (.int .u16 (k.dp : Int)) := by
  obtain ⟨p, sv, S, dv, D, sp, dp⟩ := k
  obtain ⟨f1, f2, f3, f4, f5, f6, f7⟩ := h
  simp only at f2 f3
  obtain ⟨b0, b1, b2, b3, b4, b5, b6, b7, b8, b9, b10, b11, b12, b13, b14, b15, rfl⟩ := list16 S f2
  obtain ⟨c0, c1, c2, c3, c4, c5, c6, c7, c8, c9, c10, c11, c12, c13, c14, c15, rfl⟩ := list16 D f3
  exact ⟨rfl, rfl, rfl, rfl, rfl⟩
set_option maxRecDepth 100000 in
theorem fl_src (k : Fl) : (k.cs.toList.drop 1).take (cellsA k.sv k.S).toList.length = (cellsA k.sv k.S).toList := kcells_src _ _ _ _ _
set_option maxRecDepth 100000 in
theorem fl_dst (k : Fl) (h : k.Fit) : (k.cs.toList.drop 18).take (cellsA k.dv k.D).toList.length = (cellsA k.dv k.D).toList := kcells_dst _ _ _ _ _ (by rw [cellsA_size, h.lS])
set_option maxRecDepth 100000 in
theorem fl_is (k : Fl) (h : k.Fit) : (Try.prog.info? 24).map (·.size) = some (cellsA k.sv k.S).toList.length := i24.trans (congrArg some (by rw [Array.length_toList, cellsA_size, h.lS]))
set_option maxRecDepth 100000 in
theorem fl_id (k : Fl) (h : k.Fit) : (Try.prog.info? 24).map (·.size) = some (cellsA k.dv k.D).toList.length := i24.trans (congrArg some (by rw [Array.length_toList, cellsA_size, h.lD]))
set_option maxRecDepth 100000 in
theorem fl_ik (k : Fl) (h : k.Fit) : (Try.prog.info? 31).map (·.size) = some k.cs.size := i42.trans (congrArg some (k.cs_size h).symm)
set_option maxRecDepth 100000 in
set_option maxHeartbeats 2000000 in
theorem kvalid_0 (k : Fl) (hk : k.Fit) (hp : k.p ≠ 6 ∧ k.p ≠ 17) (w : World) :
    Calls Try.prog 51 #[.agg k.cs] w fun e w' => e = .returned (.bool false) ∧ Below w.heap.size w w' := by
  have K := Lib.hid (Below.refl w.heap.size w)
  have CV1 := Lib.hid (fun W => valid_any k.sv k.S hk.lS hk.bS W)
  have CV2 := Lib.hid (fun W => valid_any k.dv k.D hk.lD hk.bD W)
  obtain ⟨a0, a1, a18, a35, a36⟩ := fl_get k hk
  have G0 := Lib.hid a0
  have G1 := Lib.hid a1
  have G18 := Lib.hid a18
  have G35 := Lib.hid a35
  have G36 := Lib.hid a36
  have KP1 := Lib.hid (fl_src k)
  have KP2 := Lib.hid (fl_dst k hk)
  have IS := Lib.hid (fl_is k hk)
  have ID := Lib.hid (fl_id k hk)
  have IK := Lib.hid (fl_ik k hk)
  clear a0 a1 a18 a35 a36
  have e6 : ((k.p : Int) != 6) = true := by rw [bne_iff_ne]; omega
  have f6 : ((k.p : Int) == 6) = false := by rw [beq_eq_false_iff_ne]; omega
  have e17 : ((k.p : Int) != 17) = true := by rw [bne_iff_ne]; omega
  have f17 : ((k.p : Int) == 17) = false := by rw [beq_eq_false_iff_ne]; omega
  clear hp
  unfold adr at CV1 CV2
  generalize vldA k.sv k.S = vS at *
  generalize vldA k.dv k.D = vD at *
  generalize k.cs = kc at *
  generalize cellsA k.sv k.S = S at *
  generalize cellsA k.dv k.D = D at *
  generalize k.p = p at *
  generalize k.sv = sv at *
  generalize k.dv = dv at *
  generalize k.sp = sp at *
  generalize k.dp = dp at *
  clear hk
  go_enter Try.func51, Try.ntmps51
  have hal := (Below.refl w.heap.size w).alloc (Nat.le_refl _) (.cells kc 31)
  replace K := Lib.hid (K.out.trans (hal.mono K.out.size))
  have N := Lib.hid (Blk.new w 31 kc)
  clear hal
  have L1 := (N.out.cell 0).trans G0.out
  have L2 := (N.out.cell 0).trans G0.out
  go_wp2
  go_ret
  exact ⟨rfl, K.out⟩
set_option maxRecDepth 100000 in
set_option maxHeartbeats 2000000 in
theorem kvalid_6k (k : Fl) (hk : k.Fit) (hp : k.p = 6) (hq : (k.sv == k.dv) = false) (w : World) :
    Calls Try.prog 51 #[.agg k.cs] w fun e w' => e = .returned (.bool false) ∧ Below w.heap.size w w' := by
  have K := Lib.hid (Below.refl w.heap.size w)
  have CV1 := Lib.hid (fun W => valid_any k.sv k.S hk.lS hk.bS W)
  have CV2 := Lib.hid (fun W => valid_any k.dv k.D hk.lD hk.bD W)
  obtain ⟨a0, a1, a18, a35, a36⟩ := fl_get k hk
  have G0 := Lib.hid a0
  have G1 := Lib.hid a1
  have G18 := Lib.hid a18
  have G35 := Lib.hid a35
  have G36 := Lib.hid a36
  have KP1 := Lib.hid (fl_src k)
  have KP2 := Lib.hid (fl_dst k hk)
  have IS := Lib.hid (fl_is k hk)
  have ID := Lib.hid (fl_id k hk)
  have IK := Lib.hid (fl_ik k hk)
  clear a0 a1 a18 a35 a36
  have e6 : ((k.p : Int) != 6) = false := by rw [hp]; rfl
  have f6 : ((k.p : Int) == 6) = true := by rw [hp]; rfl
  clear hp
  unfold adr at CV1 CV2
  generalize vldA k.sv k.S = vS at *
  generalize vldA k.dv k.D = vD at *
  generalize k.cs = kc at *
  generalize cellsA k.sv k.S = S at *
  generalize cellsA k.dv k.D = D at *
  generalize k.p = p at *
  generalize k.sv = sv at *
  generalize k.dv = dv at *
  generalize k.sp = sp at *
  generalize k.dp = dp at *
  clear hk
  go_enter Try.func51, Try.ntmps51
  have hal := (Below.refl w.heap.size w).alloc (Nat.le_refl _) (.cells kc 31)
  replace K := Lib.hid (K.out.trans (hal.mono K.out.size))
  have N := Lib.hid (Blk.new w 31 kc)
  clear hal
  have L3 := (N.out.cell 0).trans G0.out
  have L4 := (N.out.cell 1).trans G1.out
  have L5 := (N.out.cell 18).trans G18.out
  go_wp2
  go_ret
  exact ⟨rfl, K.out⟩
set_option maxRecDepth 100000 in
set_option maxHeartbeats 2000000 in
theorem kvalid_6s (k : Fl) (hk : k.Fit) (hp : k.p = 6) (hq : (k.sv == k.dv) = true) (hS : vldA k.sv k.S = false) (w : World) :
    Calls Try.prog 51 #[.agg k.cs] w fun e w' => e = .returned (.bool false) ∧ Below w.heap.size w w' := by
  have K := Lib.hid (Below.refl w.heap.size w)
  have CV1 := Lib.hid (fun W => valid_any k.sv k.S hk.lS hk.bS W)
  have CV2 := Lib.hid (fun W => valid_any k.dv k.D hk.lD hk.bD W)
  obtain ⟨a0, a1, a18, a35, a36⟩ := fl_get k hk
  have G0 := Lib.hid a0
  have G1 := Lib.hid a1
  have G18 := Lib.hid a18
  have G35 := Lib.hid a35
  have G36 := Lib.hid a36
  have KP1 := Lib.hid (fl_src k)
  have KP2 := Lib.hid (fl_dst k hk)
  have IS := Lib.hid (fl_is k hk)
  have ID := Lib.hid (fl_id k hk)
  have IK := Lib.hid (fl_ik k hk)
  clear a0 a1 a18 a35 a36
  have e6 : ((k.p : Int) != 6) = false := by rw [hp]; rfl
  have f6 : ((k.p : Int) == 6) = true := by rw [hp]; rfl
  clear hp
  unfold adr at CV1 CV2
  generalize vldA k.sv k.S = vS at *
  generalize vldA k.dv k.D = vD at *
  generalize k.cs = kc at *
  generalize cellsA k.sv k.S = S at *
  generalize cellsA k.dv k.D = D at *
  generalize k.p = p at *
  generalize k.sv = sv at *
  generalize k.dv = dv at *
  generalize k.sp = sp at *
  generalize k.dp = dp at *
  clear hk
  subst hS
  go_enter Try.func51, Try.ntmps51
  have hal := (Below.refl w.heap.size w).alloc (Nat.le_refl _) (.cells kc 31)
  replace K := Lib.hid (K.out.trans (hal.mono K.out.size))
  have N := Lib.hid (Blk.new w 31 kc)
  clear hal
  have L6 := (N.out.cell 0).trans G0.out
  have L7 := (N.out.cell 1).trans G1.out
  have L8 := (N.out.cell 18).trans G18.out
  have L9 : (loadVar 24 ⟨w.heap.size, 1, none⟩).run Try.prog (w.alloc (.cells kc 31)) = .ok (.agg S) (w.alloc (.cells kc 31)) := by have h := run_part_load (P := Try.prog) 24 1 S.toList _ N.out KP1.out Try.underlying24 rfl IS.out; rwa [Array.toArray_toList] at h
  replace L9 := Lib.hid L9
  go_wp2_with (((with_reducible refine wpList_load_want (op := ⟨some 20, .load 24 (.tmp 19), _, _, _, _⟩) ?wg9 24 (.tmp 19) ?wo9 ⟨w.heap.size, 1, none⟩ ?wx9 (.agg S) L9.out ?_); (case wg9 => rfl); (case wo9 => rfl); (case wx9 => rfl)))
  clear L6 L7 L8 L9
  have hzV1 : Hid ((w.alloc (.cells kc 31)).heap.size = w.heap.size + 1) := by show _ = _; simp only [World.size_alloc]
  generalize (w.alloc (.cells kc 31)) = V1 at *
  refine (CV1.out V1).mono ?_
  rintro e V2 ⟨rfl, hy⟩
  replace K := Lib.hid (K.out.trans (hy.mono K.out.size))
  replace N := Lib.hid (N.out.below hy N.out.lt)
  clear hy
  go_wp2
  go_ret
  exact ⟨rfl, K.out⟩
set_option maxRecDepth 100000 in
set_option maxHeartbeats 2000000 in
theorem kvalid_6y (k : Fl) (hk : k.Fit) (hp : k.p = 6) (hq : (k.sv == k.dv) = true) (hS : vldA k.sv k.S = true) (w : World) :
    Calls Try.prog 51 #[.agg k.cs] w fun e w' => e = .returned (.bool (vldA k.dv k.D)) ∧ Below w.heap.size w w' := by
  have K := Lib.hid (Below.refl w.heap.size w)
  have CV1 := Lib.hid (fun W => valid_any k.sv k.S hk.lS hk.bS W)
  have CV2 := Lib.hid (fun W => valid_any k.dv k.D hk.lD hk.bD W)
  obtain ⟨a0, a1, a18, a35, a36⟩ := fl_get k hk
  have G0 := Lib.hid a0
  have G1 := Lib.hid a1
  have G18 := Lib.hid a18
  have G35 := Lib.hid a35
  have G36 := Lib.hid a36
  have KP1 := Lib.hid (fl_src k)
  have KP2 := Lib.hid (fl_dst k hk)
  have IS := Lib.hid (fl_is k hk)
  have ID := Lib.hid (fl_id k hk)
  have IK := Lib.hid (fl_ik k hk)
  clear a0 a1 a18 a35 a36
  have e6 : ((k.p : Int) != 6) = false := by rw [hp]; rfl
  have f6 : ((k.p : Int) == 6) = true := by rw [hp]; rfl
  clear hp
  unfold adr at CV1 CV2
  generalize vldA k.sv k.S = vS at *
  generalize vldA k.dv k.D = vD at *
  generalize k.cs = kc at *
  generalize cellsA k.sv k.S = S at *
  generalize cellsA k.dv k.D = D at *
  generalize k.p = p at *
  generalize k.sv = sv at *
  generalize k.dv = dv at *
  generalize k.sp = sp at *
  generalize k.dp = dp at *
  clear hk
  subst hS
  go_enter Try.func51, Try.ntmps51
  have hal := (Below.refl w.heap.size w).alloc (Nat.le_refl _) (.cells kc 31)
  replace K := Lib.hid (K.out.trans (hal.mono K.out.size))
  have N := Lib.hid (Blk.new w 31 kc)
  clear hal
  have L10 := (N.out.cell 0).trans G0.out
  have L11 := (N.out.cell 1).trans G1.out
  have L12 := (N.out.cell 18).trans G18.out
  have L13 : (loadVar 24 ⟨w.heap.size, 1, none⟩).run Try.prog (w.alloc (.cells kc 31)) = .ok (.agg S) (w.alloc (.cells kc 31)) := by have h := run_part_load (P := Try.prog) 24 1 S.toList _ N.out KP1.out Try.underlying24 rfl IS.out; rwa [Array.toArray_toList] at h
  replace L13 := Lib.hid L13
  go_wp2_with (((with_reducible refine wpList_load_want (op := ⟨some 20, .load 24 (.tmp 19), _, _, _, _⟩) ?wg13 24 (.tmp 19) ?wo13 ⟨w.heap.size, 1, none⟩ ?wx13 (.agg S) L13.out ?_); (case wg13 => rfl); (case wo13 => rfl); (case wx13 => rfl)))
  clear L10 L11 L12 L13
  have hzV1 : Hid ((w.alloc (.cells kc 31)).heap.size = w.heap.size + 1) := by show _ = _; simp only [World.size_alloc]
  generalize (w.alloc (.cells kc 31)) = V1 at *
  refine (CV1.out V1).mono ?_
  rintro e V2 ⟨rfl, hy⟩
  replace K := Lib.hid (K.out.trans (hy.mono K.out.size))
  replace N := Lib.hid (N.out.below hy N.out.lt)
  clear hy
  have L14 : (loadVar 24 ⟨w.heap.size, 18, none⟩).run Try.prog V2 = .ok (.agg D) V2 := by have h := run_part_load (P := Try.prog) 24 18 D.toList _ N.out KP2.out Try.underlying24 rfl ID.out; rwa [Array.toArray_toList] at h
  replace L14 := Lib.hid L14
  go_wp2_with (((with_reducible refine wpList_load_want (op := ⟨some 25, .load 24 (.tmp 24), _, _, _, _⟩) ?wg14 24 (.tmp 24) ?wo14 ⟨w.heap.size, 18, none⟩ ?wx14 (.agg D) L14.out ?_); (case wg14 => rfl); (case wo14 => rfl); (case wx14 => rfl)))
  clear L14
  refine (CV2.out V2).mono ?_
  rintro e V3 ⟨rfl, hy⟩
  replace K := Lib.hid (K.out.trans (hy.mono K.out.size))
  replace N := Lib.hid (N.out.below hy N.out.lt)
  clear hy
  go_wp2
  go_ret
  exact ⟨rfl, K.out⟩
set_option maxRecDepth 100000 in
set_option maxHeartbeats 2000000 in
theorem kvalid_17k (k : Fl) (hk : k.Fit) (hp : k.p = 17) (hq : (k.sv == k.dv) = false) (w : World) :
    Calls Try.prog 51 #[.agg k.cs] w fun e w' => e = .returned (.bool false) ∧ Below w.heap.size w w' := by
  have K := Lib.hid (Below.refl w.heap.size w)
  have CV1 := Lib.hid (fun W => valid_any k.sv k.S hk.lS hk.bS W)
  have CV2 := Lib.hid (fun W => valid_any k.dv k.D hk.lD hk.bD W)
  obtain ⟨a0, a1, a18, a35, a36⟩ := fl_get k hk
  have G0 := Lib.hid a0
  have G1 := Lib.hid a1
  have G18 := Lib.hid a18
  have G35 := Lib.hid a35
  have G36 := Lib.hid a36
  have KP1 := Lib.hid (fl_src k)
  have KP2 := Lib.hid (fl_dst k hk)
  have IS := Lib.hid (fl_is k hk)
  have ID := Lib.hid (fl_id k hk)
  have IK := Lib.hid (fl_ik k hk)
  clear a0 a1 a18 a35 a36
  have e6 : ((k.p : Int) != 6) = true := by rw [hp]; rfl
  have f6 : ((k.p : Int) == 6) = false := by rw [hp]; rfl
  have e17 : ((k.p : Int) != 17) = false := by rw [hp]; rfl
  have f17 : ((k.p : Int) == 17) = true := by rw [hp]; rfl
  clear hp
  unfold adr at CV1 CV2
  generalize vldA k.sv k.S = vS at *
  generalize vldA k.dv k.D = vD at *
  generalize k.cs = kc at *
  generalize cellsA k.sv k.S = S at *
  generalize cellsA k.dv k.D = D at *
  generalize k.p = p at *
  generalize k.sv = sv at *
  generalize k.dv = dv at *
  generalize k.sp = sp at *
  generalize k.dp = dp at *
  clear hk
  go_enter Try.func51, Try.ntmps51
  have hal := (Below.refl w.heap.size w).alloc (Nat.le_refl _) (.cells kc 31)
  replace K := Lib.hid (K.out.trans (hal.mono K.out.size))
  have N := Lib.hid (Blk.new w 31 kc)
  clear hal
  have L15 := (N.out.cell 0).trans G0.out
  have L16 := (N.out.cell 0).trans G0.out
  have L17 := (N.out.cell 1).trans G1.out
  have L18 := (N.out.cell 18).trans G18.out
  go_wp2
  go_ret
  exact ⟨rfl, K.out⟩
set_option maxRecDepth 100000 in
set_option maxHeartbeats 2000000 in
theorem kvalid_17s (k : Fl) (hk : k.Fit) (hp : k.p = 17) (hq : (k.sv == k.dv) = true) (hS : vldA k.sv k.S = false) (w : World) :
    Calls Try.prog 51 #[.agg k.cs] w fun e w' => e = .returned (.bool false) ∧ Below w.heap.size w w' := by
  have K := Lib.hid (Below.refl w.heap.size w)
  have CV1 := Lib.hid (fun W => valid_any k.sv k.S hk.lS hk.bS W)
  have CV2 := Lib.hid (fun W => valid_any k.dv k.D hk.lD hk.bD W)
  obtain ⟨a0, a1, a18, a35, a36⟩ := fl_get k hk
  have G0 := Lib.hid a0
  have G1 := Lib.hid a1
  have G18 := Lib.hid a18
  have G35 := Lib.hid a35
  have G36 := Lib.hid a36
  have KP1 := Lib.hid (fl_src k)
  have KP2 := Lib.hid (fl_dst k hk)
  have IS := Lib.hid (fl_is k hk)
  have ID := Lib.hid (fl_id k hk)
  have IK := Lib.hid (fl_ik k hk)
  clear a0 a1 a18 a35 a36
  have e6 : ((k.p : Int) != 6) = true := by rw [hp]; rfl
  have f6 : ((k.p : Int) == 6) = false := by rw [hp]; rfl
  have e17 : ((k.p : Int) != 17) = false := by rw [hp]; rfl
  have f17 : ((k.p : Int) == 17) = true := by rw [hp]; rfl
  clear hp
  unfold adr at CV1 CV2
  generalize vldA k.sv k.S = vS at *
  generalize vldA k.dv k.D = vD at *
  generalize k.cs = kc at *
  generalize cellsA k.sv k.S = S at *
  generalize cellsA k.dv k.D = D at *
  generalize k.p = p at *
  generalize k.sv = sv at *
  generalize k.dv = dv at *
  generalize k.sp = sp at *
  generalize k.dp = dp at *
  clear hk
  subst hS
  go_enter Try.func51, Try.ntmps51
  have hal := (Below.refl w.heap.size w).alloc (Nat.le_refl _) (.cells kc 31)
  replace K := Lib.hid (K.out.trans (hal.mono K.out.size))
  have N := Lib.hid (Blk.new w 31 kc)
  clear hal
  have L19 := (N.out.cell 0).trans G0.out
  have L20 := (N.out.cell 0).trans G0.out
  have L21 := (N.out.cell 1).trans G1.out
  have L22 := (N.out.cell 18).trans G18.out
  have L23 : (loadVar 24 ⟨w.heap.size, 1, none⟩).run Try.prog (w.alloc (.cells kc 31)) = .ok (.agg S) (w.alloc (.cells kc 31)) := by have h := run_part_load (P := Try.prog) 24 1 S.toList _ N.out KP1.out Try.underlying24 rfl IS.out; rwa [Array.toArray_toList] at h
  replace L23 := Lib.hid L23
  go_wp2_with (((with_reducible refine wpList_load_want (op := ⟨some 20, .load 24 (.tmp 19), _, _, _, _⟩) ?wg23 24 (.tmp 19) ?wo23 ⟨w.heap.size, 1, none⟩ ?wx23 (.agg S) L23.out ?_); (case wg23 => rfl); (case wo23 => rfl); (case wx23 => rfl)))
  clear L19 L20 L21 L22 L23
  have hzV1 : Hid ((w.alloc (.cells kc 31)).heap.size = w.heap.size + 1) := by show _ = _; simp only [World.size_alloc]
  generalize (w.alloc (.cells kc 31)) = V1 at *
  refine (CV1.out V1).mono ?_
  rintro e V2 ⟨rfl, hy⟩
  replace K := Lib.hid (K.out.trans (hy.mono K.out.size))
  replace N := Lib.hid (N.out.below hy N.out.lt)
  clear hy
  go_wp2
  go_ret
  exact ⟨rfl, K.out⟩
set_option maxRecDepth 100000 in
set_option maxHeartbeats 2000000 in
theorem kvalid_17y (k : Fl) (hk : k.Fit) (hp : k.p = 17) (hq : (k.sv == k.dv) = true) (hS : vldA k.sv k.S = true) (w : World) :
    Calls Try.prog 51 #[.agg k.cs] w fun e w' => e = .returned (.bool (vldA k.dv k.D)) ∧ Below w.heap.size w w' := by
  have K := Lib.hid (Below.refl w.heap.size w)
  have CV1 := Lib.hid (fun W => valid_any k.sv k.S hk.lS hk.bS W)
  have CV2 := Lib.hid (fun W => valid_any k.dv k.D hk.lD hk.bD W)
  obtain ⟨a0, a1, a18, a35, a36⟩ := fl_get k hk
  have G0 := Lib.hid a0
  have G1 := Lib.hid a1
  have G18 := Lib.hid a18
  have G35 := Lib.hid a35
  have G36 := Lib.hid a36
  have KP1 := Lib.hid (fl_src k)
  have KP2 := Lib.hid (fl_dst k hk)
  have IS := Lib.hid (fl_is k hk)
  have ID := Lib.hid (fl_id k hk)
  have IK := Lib.hid (fl_ik k hk)
  clear a0 a1 a18 a35 a36
  have e6 : ((k.p : Int) != 6) = true := by rw [hp]; rfl
  have f6 : ((k.p : Int) == 6) = false := by rw [hp]; rfl
  have e17 : ((k.p : Int) != 17) = false := by rw [hp]; rfl
  have f17 : ((k.p : Int) == 17) = true := by rw [hp]; rfl
  clear hp
  unfold adr at CV1 CV2
  generalize vldA k.sv k.S = vS at *
  generalize vldA k.dv k.D = vD at *
  generalize k.cs = kc at *
  generalize cellsA k.sv k.S = S at *
  generalize cellsA k.dv k.D = D at *
  generalize k.p = p at *
  generalize k.sv = sv at *
  generalize k.dv = dv at *
  generalize k.sp = sp at *
  generalize k.dp = dp at *
  clear hk
  subst hS
  go_enter Try.func51, Try.ntmps51
  have hal := (Below.refl w.heap.size w).alloc (Nat.le_refl _) (.cells kc 31)
  replace K := Lib.hid (K.out.trans (hal.mono K.out.size))
  have N := Lib.hid (Blk.new w 31 kc)
  clear hal
  have L24 := (N.out.cell 0).trans G0.out
  have L25 := (N.out.cell 0).trans G0.out
  have L26 := (N.out.cell 1).trans G1.out
  have L27 := (N.out.cell 18).trans G18.out
  have L28 : (loadVar 24 ⟨w.heap.size, 1, none⟩).run Try.prog (w.alloc (.cells kc 31)) = .ok (.agg S) (w.alloc (.cells kc 31)) := by have h := run_part_load (P := Try.prog) 24 1 S.toList _ N.out KP1.out Try.underlying24 rfl IS.out; rwa [Array.toArray_toList] at h
  replace L28 := Lib.hid L28
  go_wp2_with (((with_reducible refine wpList_load_want (op := ⟨some 20, .load 24 (.tmp 19), _, _, _, _⟩) ?wg28 24 (.tmp 19) ?wo28 ⟨w.heap.size, 1, none⟩ ?wx28 (.agg S) L28.out ?_); (case wg28 => rfl); (case wo28 => rfl); (case wx28 => rfl)))
  clear L24 L25 L26 L27 L28
  have hzV1 : Hid ((w.alloc (.cells kc 31)).heap.size = w.heap.size + 1) := by show _ = _; simp only [World.size_alloc]
  generalize (w.alloc (.cells kc 31)) = V1 at *
  refine (CV1.out V1).mono ?_
  rintro e V2 ⟨rfl, hy⟩
  replace K := Lib.hid (K.out.trans (hy.mono K.out.size))
  replace N := Lib.hid (N.out.below hy N.out.lt)
  clear hy
  have L29 : (loadVar 24 ⟨w.heap.size, 18, none⟩).run Try.prog V2 = .ok (.agg D) V2 := by have h := run_part_load (P := Try.prog) 24 18 D.toList _ N.out KP2.out Try.underlying24 rfl ID.out; rwa [Array.toArray_toList] at h
  replace L29 := Lib.hid L29
  go_wp2_with (((with_reducible refine wpList_load_want (op := ⟨some 25, .load 24 (.tmp 24), _, _, _, _⟩) ?wg29 24 (.tmp 24) ?wo29 ⟨w.heap.size, 18, none⟩ ?wx29 (.agg D) L29.out ?_); (case wg29 => rfl); (case wo29 => rfl); (case wx29 => rfl)))
  clear L29
  refine (CV2.out V2).mono ?_
  rintro e V3 ⟨rfl, hy⟩
  replace K := Lib.hid (K.out.trans (hy.mono K.out.size))
  replace N := Lib.hid (N.out.below hy N.out.lt)
  clear hy
  go_wp2
  go_ret
  exact ⟨rfl, K.out⟩
set_option maxRecDepth 100000 in
set_option maxHeartbeats 2000000 in
theorem rvalid_0 (k : Fl) (hk : k.Fit) (hp : k.p ≠ 6 ∧ k.p ≠ 17) (w : World) :
    Calls Try.prog 13 #[.agg k.cs] w fun e w' => e = .returned (.bool false) ∧ Below w.heap.size w w' := by
  have K := Lib.hid (Below.refl w.heap.size w)
  have CV1 := Lib.hid (fun W => ref_adr k.sv k.S hk.lS W)
  have CV2 := Lib.hid (fun W => ref_adr k.dv k.D hk.lD W)
  obtain ⟨a0, a1, a18, a35, a36⟩ := fl_get k hk
  have G0 := Lib.hid a0
  have G1 := Lib.hid a1
  have G18 := Lib.hid a18
  have G35 := Lib.hid a35
  have G36 := Lib.hid a36
  have KP1 := Lib.hid (fl_src k)
  have KP2 := Lib.hid (fl_dst k hk)
  have IS := Lib.hid (fl_is k hk)
  have ID := Lib.hid (fl_id k hk)
  have IK := Lib.hid (fl_ik k hk)
  clear a0 a1 a18 a35 a36
  have e6 : ((k.p : Int) != 6) = true := by rw [bne_iff_ne]; omega
  have f6 : ((k.p : Int) == 6) = false := by rw [beq_eq_false_iff_ne]; omega
  have e17 : ((k.p : Int) != 17) = true := by rw [bne_iff_ne]; omega
  have f17 : ((k.p : Int) == 17) = false := by rw [beq_eq_false_iff_ne]; omega
  clear hp
  unfold adr at CV1 CV2
  generalize vldA k.sv k.S = vS at *
  generalize vldA k.dv k.D = vD at *
  generalize k.cs = kc at *
  generalize cellsA k.sv k.S = S at *
  generalize cellsA k.dv k.D = D at *
  generalize k.p = p at *
  generalize k.sv = sv at *
  generalize k.dv = dv at *
  generalize k.sp = sp at *
  generalize k.dp = dp at *
  clear hk
  go_enter Try.func13, Try.ntmps13
  have hal := (Below.refl w.heap.size w).alloc (Nat.le_refl _) (.cells kc 31)
  replace K := Lib.hid (K.out.trans (hal.mono K.out.size))
  have N := Lib.hid (Blk.new w 31 kc)
  clear hal
  have L30 := (N.out.cell 0).trans G0.out
  have L31 := (N.out.cell 0).trans G0.out
  go_wp2
  go_ret
  exact ⟨rfl, K.out⟩
set_option maxRecDepth 100000 in
set_option maxHeartbeats 2000000 in
theorem rvalid_6s (k : Fl) (hk : k.Fit) (hp : k.p = 6) (hS : vldA k.sv k.S = false) (w : World) :
    Calls Try.prog 13 #[.agg k.cs] w fun e w' => e = .returned (.bool false) ∧ Below w.heap.size w w' := by
  have K := Lib.hid (Below.refl w.heap.size w)
  have CV1 := Lib.hid (fun W => ref_adr k.sv k.S hk.lS W)
  have CV2 := Lib.hid (fun W => ref_adr k.dv k.D hk.lD W)
  obtain ⟨a0, a1, a18, a35, a36⟩ := fl_get k hk
  have G0 := Lib.hid a0
  have G1 := Lib.hid a1
  have G18 := Lib.hid a18
  have G35 := Lib.hid a35
  have G36 := Lib.hid a36
  have KP1 := Lib.hid (fl_src k)
  have KP2 := Lib.hid (fl_dst k hk)
  have IS := Lib.hid (fl_is k hk)
  have ID := Lib.hid (fl_id k hk)
  have IK := Lib.hid (fl_ik k hk)
  clear a0 a1 a18 a35 a36
  have e6 : ((k.p : Int) != 6) = false := by rw [hp]; rfl
  have f6 : ((k.p : Int) == 6) = true := by rw [hp]; rfl
  clear hp
  unfold adr at CV1 CV2
  generalize vldA k.sv k.S = vS at *
  generalize vldA k.dv k.D = vD at *
  generalize k.cs = kc at *
  generalize cellsA k.sv k.S = S at *
  generalize cellsA k.dv k.D = D at *
  generalize k.p = p at *
  generalize k.sv = sv at *
  generalize k.dv = dv at *
  generalize k.sp = sp at *
  generalize k.dp = dp at *
  clear hk
  subst hS
  go_enter Try.func13, Try.ntmps13
  have hal := (Below.refl w.heap.size w).alloc (Nat.le_refl _) (.cells kc 31)
  replace K := Lib.hid (K.out.trans (hal.mono K.out.size))
  have N := Lib.hid (Blk.new w 31 kc)
  clear hal
  have L32 := (N.out.cell 0).trans G0.out
  have L33 : (loadVar 24 ⟨w.heap.size, 1, none⟩).run Try.prog (w.alloc (.cells kc 31)) = .ok (.agg S) (w.alloc (.cells kc 31)) := by have h := run_part_load (P := Try.prog) 24 1 S.toList _ N.out KP1.out Try.underlying24 rfl IS.out; rwa [Array.toArray_toList] at h
  replace L33 := Lib.hid L33
  go_wp2_with (((with_reducible refine wpList_load_want (op := ⟨some 13, .load 24 (.tmp 12), _, _, _, _⟩) ?wg33 24 (.tmp 12) ?wo33 ⟨w.heap.size, 1, none⟩ ?wx33 (.agg S) L33.out ?_); (case wg33 => rfl); (case wo33 => rfl); (case wx33 => rfl)))
  clear L32 L33
  have hzV1 : Hid ((w.alloc (.cells kc 31)).heap.size = w.heap.size + 1) := by show _ = _; simp only [World.size_alloc]
  generalize (w.alloc (.cells kc 31)) = V1 at *
  refine (CV1.out V1).mono ?_
  rintro e V2 ⟨rfl, hy⟩
  replace K := Lib.hid (K.out.trans (hy.mono K.out.size))
  replace N := Lib.hid (N.out.below hy N.out.lt)
  clear hy
  go_wp2
  go_ret
  exact ⟨rfl, K.out⟩
set_option maxRecDepth 100000 in
set_option maxHeartbeats 2000000 in
theorem rvalid_6d (k : Fl) (hk : k.Fit) (hp : k.p = 6) (hS : vldA k.sv k.S = true) (hD : vldA k.dv k.D = false) (w : World) :
    Calls Try.prog 13 #[.agg k.cs] w fun e w' => e = .returned (.bool false) ∧ Below w.heap.size w w' := by
  have K := Lib.hid (Below.refl w.heap.size w)
  have CV1 := Lib.hid (fun W => ref_adr k.sv k.S hk.lS W)
  have CV2 := Lib.hid (fun W => ref_adr k.dv k.D hk.lD W)
  obtain ⟨a0, a1, a18, a35, a36⟩ := fl_get k hk
  have G0 := Lib.hid a0
  have G1 := Lib.hid a1
  have G18 := Lib.hid a18
  have G35 := Lib.hid a35
  have G36 := Lib.hid a36
  have KP1 := Lib.hid (fl_src k)
  have KP2 := Lib.hid (fl_dst k hk)
  have IS := Lib.hid (fl_is k hk)
  have ID := Lib.hid (fl_id k hk)
  have IK := Lib.hid (fl_ik k hk)
  clear a0 a1 a18 a35 a36
  have e6 : ((k.p : Int) != 6) = false := by rw [hp]; rfl
  have f6 : ((k.p : Int) == 6) = true := by rw [hp]; rfl
  clear hp
  unfold adr at CV1 CV2
  generalize vldA k.sv k.S = vS at *
  generalize vldA k.dv k.D = vD at *
  generalize k.cs = kc at *
  generalize cellsA k.sv k.S = S at *
  generalize cellsA k.dv k.D = D at *
  generalize k.p = p at *
  generalize k.sv = sv at *
  generalize k.dv = dv at *
  generalize k.sp = sp at *
  generalize k.dp = dp at *
  clear hk
  subst hS
  subst hD
  go_enter Try.func13, Try.ntmps13
  have hal := (Below.refl w.heap.size w).alloc (Nat.le_refl _) (.cells kc 31)
  replace K := Lib.hid (K.out.trans (hal.mono K.out.size))
  have N := Lib.hid (Blk.new w 31 kc)
  clear hal
  have L34 := (N.out.cell 0).trans G0.out
  have L35 : (loadVar 24 ⟨w.heap.size, 1, none⟩).run Try.prog (w.alloc (.cells kc 31)) = .ok (.agg S) (w.alloc (.cells kc 31)) := by have h := run_part_load (P := Try.prog) 24 1 S.toList _ N.out KP1.out Try.underlying24 rfl IS.out; rwa [Array.toArray_toList] at h
  replace L35 := Lib.hid L35
  go_wp2_with (((with_reducible refine wpList_load_want (op := ⟨some 13, .load 24 (.tmp 12), _, _, _, _⟩) ?wg35 24 (.tmp 12) ?wo35 ⟨w.heap.size, 1, none⟩ ?wx35 (.agg S) L35.out ?_); (case wg35 => rfl); (case wo35 => rfl); (case wx35 => rfl)))
  clear L34 L35
  have hzV1 : Hid ((w.alloc (.cells kc 31)).heap.size = w.heap.size + 1) := by show _ = _; simp only [World.size_alloc]
  generalize (w.alloc (.cells kc 31)) = V1 at *
  refine (CV1.out V1).mono ?_
  rintro e V2 ⟨rfl, hy⟩
  replace K := Lib.hid (K.out.trans (hy.mono K.out.size))
  replace N := Lib.hid (N.out.below hy N.out.lt)
  clear hy
  have L36 : (loadVar 24 ⟨w.heap.size, 18, none⟩).run Try.prog V2 = .ok (.agg D) V2 := by have h := run_part_load (P := Try.prog) 24 18 D.toList _ N.out KP2.out Try.underlying24 rfl ID.out; rwa [Array.toArray_toList] at h
  replace L36 := Lib.hid L36
  go_wp2_with (((with_reducible refine wpList_load_want (op := ⟨some 18, .load 24 (.tmp 17), _, _, _, _⟩) ?wg36 24 (.tmp 17) ?wo36 ⟨w.heap.size, 18, none⟩ ?wx36 (.agg D) L36.out ?_); (case wg36 => rfl); (case wo36 => rfl); (case wx36 => rfl)))
  clear L36
  refine (CV2.out V2).mono ?_
  rintro e V3 ⟨rfl, hy⟩
  replace K := Lib.hid (K.out.trans (hy.mono K.out.size))
  replace N := Lib.hid (N.out.below hy N.out.lt)
  clear hy
  go_wp2
  go_ret
  exact ⟨rfl, K.out⟩
set_option maxRecDepth 100000 in
set_option maxHeartbeats 2000000 in
theorem rvalid_6y (k : Fl) (hk : k.Fit) (hp : k.p = 6) (hS : vldA k.sv k.S = true) (hD : vldA k.dv k.D = true) (w : World) :
    Calls Try.prog 13 #[.agg k.cs] w fun e w' => e = .returned (.bool (k.sv == k.dv)) ∧ Below w.heap.size w w' := by
  have K := Lib.hid (Below.refl w.heap.size w)
  have CV1 := Lib.hid (fun W => ref_adr k.sv k.S hk.lS W)
  have CV2 := Lib.hid (fun W => ref_adr k.dv k.D hk.lD W)
  obtain ⟨a0, a1, a18, a35, a36⟩ := fl_get k hk
  have G0 := Lib.hid a0
  have G1 := Lib.hid a1
  have G18 := Lib.hid a18
  have G35 := Lib.hid a35
  have G36 := Lib.hid a36
  have KP1 := Lib.hid (fl_src k)
  have KP2 := Lib.hid (fl_dst k hk)
  have IS := Lib.hid (fl_is k hk)
  have ID := Lib.hid (fl_id k hk)
  have IK := Lib.hid (fl_ik k hk)
  clear a0 a1 a18 a35 a36
  have e6 : ((k.p : Int) != 6) = false := by rw [hp]; rfl
  have f6 : ((k.p : Int) == 6) = true := by rw [hp]; rfl
  clear hp
  unfold adr at CV1 CV2
  generalize vldA k.sv k.S = vS at *
  generalize vldA k.dv k.D = vD at *
  generalize k.cs = kc at *
  generalize cellsA k.sv k.S = S at *
  generalize cellsA k.dv k.D = D at *
  generalize k.p = p at *
  generalize k.sv = sv at *
  generalize k.dv = dv at *
  generalize k.sp = sp at *
  generalize k.dp = dp at *
  clear hk
  subst hS
  subst hD
  go_enter Try.func13, Try.ntmps13
  have hal := (Below.refl w.heap.size w).alloc (Nat.le_refl _) (.cells kc 31)
  replace K := Lib.hid (K.out.trans (hal.mono K.out.size))
  have N := Lib.hid (Blk.new w 31 kc)
  clear hal
  have L37 := (N.out.cell 0).trans G0.out
  have L38 : (loadVar 24 ⟨w.heap.size, 1, none⟩).run Try.prog (w.alloc (.cells kc 31)) = .ok (.agg S) (w.alloc (.cells kc 31)) := by have h := run_part_load (P := Try.prog) 24 1 S.toList _ N.out KP1.out Try.underlying24 rfl IS.out; rwa [Array.toArray_toList] at h
  replace L38 := Lib.hid L38
  go_wp2_with (((with_reducible refine wpList_load_want (op := ⟨some 13, .load 24 (.tmp 12), _, _, _, _⟩) ?wg38 24 (.tmp 12) ?wo38 ⟨w.heap.size, 1, none⟩ ?wx38 (.agg S) L38.out ?_); (case wg38 => rfl); (case wo38 => rfl); (case wx38 => rfl)))
  clear L37 L38
  have hzV1 : Hid ((w.alloc (.cells kc 31)).heap.size = w.heap.size + 1) := by show _ = _; simp only [World.size_alloc]
  generalize (w.alloc (.cells kc 31)) = V1 at *
  refine (CV1.out V1).mono ?_
  rintro e V2 ⟨rfl, hy⟩
  replace K := Lib.hid (K.out.trans (hy.mono K.out.size))
  replace N := Lib.hid (N.out.below hy N.out.lt)
  clear hy
  have L39 : (loadVar 24 ⟨w.heap.size, 18, none⟩).run Try.prog V2 = .ok (.agg D) V2 := by have h := run_part_load (P := Try.prog) 24 18 D.toList _ N.out KP2.out Try.underlying24 rfl ID.out; rwa [Array.toArray_toList] at h
  replace L39 := Lib.hid L39
  go_wp2_with (((with_reducible refine wpList_load_want (op := ⟨some 18, .load 24 (.tmp 17), _, _, _, _⟩) ?wg39 24 (.tmp 17) ?wo39 ⟨w.heap.size, 18, none⟩ ?wx39 (.agg D) L39.out ?_); (case wg39 => rfl); (case wo39 => rfl); (case wx39 => rfl)))
  clear L39
  refine (CV2.out V2).mono ?_
  rintro e V3 ⟨rfl, hy⟩
  replace K := Lib.hid (K.out.trans (hy.mono K.out.size))
  replace N := Lib.hid (N.out.below hy N.out.lt)
  clear hy
  have L40 := (N.out.cell 1).trans G1.out
  have L41 := (N.out.cell 18).trans G18.out
  go_wp2
  go_ret
  exact ⟨rfl, K.out⟩
set_option maxRecDepth 100000 in
set_option maxHeartbeats 2000000 in
theorem rvalid_17s (k : Fl) (hk : k.Fit) (hp : k.p = 17) (hS : vldA k.sv k.S = false) (w : World) :
    Calls Try.prog 13 #[.agg k.cs] w fun e w' => e = .returned (.bool false) ∧ Below w.heap.size w w' := by
  have K := Lib.hid (Below.refl w.heap.size w)
  have CV1 := Lib.hid (fun W => ref_adr k.sv k.S hk.lS W)
  have CV2 := Lib.hid (fun W => ref_adr k.dv k.D hk.lD W)
  obtain ⟨a0, a1, a18, a35, a36⟩ := fl_get k hk
  have G0 := Lib.hid a0
  have G1 := Lib.hid a1
  have G18 := Lib.hid a18
  have G35 := Lib.hid a35
  have G36 := Lib.hid a36
  have KP1 := Lib.hid (fl_src k)
  have KP2 := Lib.hid (fl_dst k hk)
  have IS := Lib.hid (fl_is k hk)
  have ID := Lib.hid (fl_id k hk)
  have IK := Lib.hid (fl_ik k hk)
  clear a0 a1 a18 a35 a36
  have e6 : ((k.p : Int) != 6) = true := by rw [hp]; rfl
  have f6 : ((k.p : Int) == 6) = false := by rw [hp]; rfl
  have e17 : ((k.p : Int) != 17) = false := by rw [hp]; rfl
  have f17 : ((k.p : Int) == 17) = true := by rw [hp]; rfl
  clear hp
  unfold adr at CV1 CV2
  generalize vldA k.sv k.S = vS at *
  generalize vldA k.dv k.D = vD at *
  generalize k.cs = kc at *
  generalize cellsA k.sv k.S = S at *
  generalize cellsA k.dv k.D = D at *
  generalize k.p = p at *
  generalize k.sv = sv at *
  generalize k.dv = dv at *
  generalize k.sp = sp at *
  generalize k.dp = dp at *
  clear hk
  subst hS
  go_enter Try.func13, Try.ntmps13
  have hal := (Below.refl w.heap.size w).alloc (Nat.le_refl _) (.cells kc 31)
  replace K := Lib.hid (K.out.trans (hal.mono K.out.size))
  have N := Lib.hid (Blk.new w 31 kc)
  clear hal
  have L42 := (N.out.cell 0).trans G0.out
  have L43 := (N.out.cell 0).trans G0.out
  have L44 : (loadVar 24 ⟨w.heap.size, 1, none⟩).run Try.prog (w.alloc (.cells kc 31)) = .ok (.agg S) (w.alloc (.cells kc 31)) := by have h := run_part_load (P := Try.prog) 24 1 S.toList _ N.out KP1.out Try.underlying24 rfl IS.out; rwa [Array.toArray_toList] at h
  replace L44 := Lib.hid L44
  go_wp2_with (((with_reducible refine wpList_load_want (op := ⟨some 13, .load 24 (.tmp 12), _, _, _, _⟩) ?wg44 24 (.tmp 12) ?wo44 ⟨w.heap.size, 1, none⟩ ?wx44 (.agg S) L44.out ?_); (case wg44 => rfl); (case wo44 => rfl); (case wx44 => rfl)))
  clear L42 L43 L44
  have hzV1 : Hid ((w.alloc (.cells kc 31)).heap.size = w.heap.size + 1) := by show _ = _; simp only [World.size_alloc]
  generalize (w.alloc (.cells kc 31)) = V1 at *
  refine (CV1.out V1).mono ?_
  rintro e V2 ⟨rfl, hy⟩
  replace K := Lib.hid (K.out.trans (hy.mono K.out.size))
  replace N := Lib.hid (N.out.below hy N.out.lt)
  clear hy
  go_wp2
  go_ret
  exact ⟨rfl, K.out⟩
set_option maxRecDepth 100000 in
set_option maxHeartbeats 2000000 in
theorem rvalid_17d (k : Fl) (hk : k.Fit) (hp : k.p = 17) (hS : vldA k.sv k.S = true) (hD : vldA k.dv k.D = false) (w : World) :
    Calls Try.prog 13 #[.agg k.cs] w fun e w' => e = .returned (.bool false) ∧ Below w.heap.size w w' := by
  have K := Lib.hid (Below.refl w.heap.size w)
  have CV1 := Lib.hid (fun W => ref_adr k.sv k.S hk.lS W)
  have CV2 := Lib.hid (fun W => ref_adr k.dv k.D hk.lD W)
  obtain ⟨a0, a1, a18, a35, a36⟩ := fl_get k hk
  have G0 := Lib.hid a0
  have G1 := Lib.hid a1
  have G18 := Lib.hid a18
  have G35 := Lib.hid a35
  have G36 := Lib.hid a36
  have KP1 := Lib.hid (fl_src k)
  have KP2 := Lib.hid (fl_dst k hk)
  have IS := Lib.hid (fl_is k hk)
  have ID := Lib.hid (fl_id k hk)
  have IK := Lib.hid (fl_ik k hk)
  clear a0 a1 a18 a35 a36
  have e6 : ((k.p : Int) != 6) = true := by rw [hp]; rfl
  have f6 : ((k.p : Int) == 6) = false := by rw [hp]; rfl
  have e17 : ((k.p : Int) != 17) = false := by rw [hp]; rfl
  have f17 : ((k.p : Int) == 17) = true := by rw [hp]; rfl
  clear hp
  unfold adr at CV1 CV2
  generalize vldA k.sv k.S = vS at *
  generalize vldA k.dv k.D = vD at *
  generalize k.cs = kc at *
  generalize cellsA k.sv k.S = S at *
  generalize cellsA k.dv k.D = D at *
  generalize k.p = p at *
  generalize k.sv = sv at *
  generalize k.dv = dv at *
  generalize k.sp = sp at *
  generalize k.dp = dp at *
  clear hk
  subst hS
  subst hD
  go_enter Try.func13, Try.ntmps13
  have hal := (Below.refl w.heap.size w).alloc (Nat.le_refl _) (.cells kc 31)
  replace K := Lib.hid (K.out.trans (hal.mono K.out.size))
  have N := Lib.hid (Blk.new w 31 kc)
  clear hal
  have L45 := (N.out.cell 0).trans G0.out
  have L46 := (N.out.cell 0).trans G0.out
  have L47 : (loadVar 24 ⟨w.heap.size, 1, none⟩).run Try.prog (w.alloc (.cells kc 31)) = .ok (.agg S) (w.alloc (.cells kc 31)) := by have h := run_part_load (P := Try.prog) 24 1 S.toList _ N.out KP1.out Try.underlying24 rfl IS.out; rwa [Array.toArray_toList] at h
  replace L47 := Lib.hid L47
  go_wp2_with (((with_reducible refine wpList_load_want (op := ⟨some 13, .load 24 (.tmp 12), _, _, _, _⟩) ?wg47 24 (.tmp 12) ?wo47 ⟨w.heap.size, 1, none⟩ ?wx47 (.agg S) L47.out ?_); (case wg47 => rfl); (case wo47 => rfl); (case wx47 => rfl)))
  clear L45 L46 L47
  have hzV1 : Hid ((w.alloc (.cells kc 31)).heap.size = w.heap.size + 1) := by show _ = _; simp only [World.size_alloc]
  generalize (w.alloc (.cells kc 31)) = V1 at *
  refine (CV1.out V1).mono ?_
  rintro e V2 ⟨rfl, hy⟩
  replace K := Lib.hid (K.out.trans (hy.mono K.out.size))
  replace N := Lib.hid (N.out.below hy N.out.lt)
  clear hy
  have L48 : (loadVar 24 ⟨w.heap.size, 18, none⟩).run Try.prog V2 = .ok (.agg D) V2 := by have h := run_part_load (P := Try.prog) 24 18 D.toList _ N.out KP2.out Try.underlying24 rfl ID.out; rwa [Array.toArray_toList] at h
  replace L48 := Lib.hid L48
  go_wp2_with (((with_reducible refine wpList_load_want (op := ⟨some 18, .load 24 (.tmp 17), _, _, _, _⟩) ?wg48 24 (.tmp 17) ?wo48 ⟨w.heap.size, 18, none⟩ ?wx48 (.agg D) L48.out ?_); (case wg48 => rfl); (case wo48 => rfl); (case wx48 => rfl)))
  clear L48
  refine (CV2.out V2).mono ?_
  rintro e V3 ⟨rfl, hy⟩
  replace K := Lib.hid (K.out.trans (hy.mono K.out.size))
  replace N := Lib.hid (N.out.below hy N.out.lt)
  clear hy
  go_wp2
  go_ret
  exact ⟨rfl, K.out⟩
set_option maxRecDepth 100000 in
set_option maxHeartbeats 2000000 in
theorem rvalid_17y (k : Fl) (hk : k.Fit) (hp : k.p = 17) (hS : vldA k.sv k.S = true) (hD : vldA k.dv k.D = true) (w : World) :
    Calls Try.prog 13 #[.agg k.cs] w fun e w' => e = .returned (.bool (k.sv == k.dv)) ∧ Below w.heap.size w w' := by
  have K := Lib.hid (Below.refl w.heap.size w)
  have CV1 := Lib.hid (fun W => ref_adr k.sv k.S hk.lS W)
  have CV2 := Lib.hid (fun W => ref_adr k.dv k.D hk.lD W)
  obtain ⟨a0, a1, a18, a35, a36⟩ := fl_get k hk
  have G0 := Lib.hid a0
  have G1 := Lib.hid a1
  have G18 := Lib.hid a18
  have G35 := Lib.hid a35
  have G36 := Lib.hid a36
  have KP1 := Lib.hid (fl_src k)
  have KP2 := Lib.hid (fl_dst k hk)
  have IS := Lib.hid (fl_is k hk)
  have ID := Lib.hid (fl_id k hk)
  have IK := Lib.hid (fl_ik k hk)
  clear a0 a1 a18 a35 a36
  have e6 : ((k.p : Int) != 6) = true := by rw [hp]; rfl
  have f6 : ((k.p : Int) == 6) = false := by rw [hp]; rfl
  have e17 : ((k.p : Int) != 17) = false := by rw [hp]; rfl
  have f17 : ((k.p : Int) == 17) = true := by rw [hp]; rfl
  clear hp
  unfold adr at CV1 CV2
  generalize vldA k.sv k.S = vS at *
  generalize vldA k.dv k.D = vD at *
  generalize k.cs = kc at *
  generalize cellsA k.sv k.S = S at *
  generalize cellsA k.dv k.D = D at *
  generalize k.p = p at *
  generalize k.sv = sv at *
  generalize k.dv = dv at *
  generalize k.sp = sp at *
  generalize k.dp = dp at *
  clear hk
  subst hS
  subst hD
  go_enter Try.func13, Try.ntmps13
  have hal := (Below.refl w.heap.size w).alloc (Nat.le_refl _) (.cells kc 31)
  replace K := Lib.hid (K.out.trans (hal.mono K.out.size))
  have N := Lib.hid (Blk.new w 31 kc)
  clear hal
  have L49 := (N.out.cell 0).trans G0.out
  have L50 := (N.out.cell 0).trans G0.out
  have L51 : (loadVar 24 ⟨w.heap.size, 1, none⟩).run Try.prog (w.alloc (.cells kc 31)) = .ok (.agg S) (w.alloc (.cells kc 31)) := by have h := run_part_load (P := Try.prog) 24 1 S.toList _ N.out KP1.out Try.underlying24 rfl IS.out; rwa [Array.toArray_toList] at h
  replace L51 := Lib.hid L51
  go_wp2_with (((with_reducible refine wpList_load_want (op := ⟨some 13, .load 24 (.tmp 12), _, _, _, _⟩) ?wg51 24 (.tmp 12) ?wo51 ⟨w.heap.size, 1, none⟩ ?wx51 (.agg S) L51.out ?_); (case wg51 => rfl); (case wo51 => rfl); (case wx51 => rfl)))
  clear L49 L50 L51
  have hzV1 : Hid ((w.alloc (.cells kc 31)).heap.size = w.heap.size + 1) := by show _ = _; simp only [World.size_alloc]
  generalize (w.alloc (.cells kc 31)) = V1 at *
  refine (CV1.out V1).mono ?_
  rintro e V2 ⟨rfl, hy⟩
  replace K := Lib.hid (K.out.trans (hy.mono K.out.size))
  replace N := Lib.hid (N.out.below hy N.out.lt)
  clear hy
  have L52 : (loadVar 24 ⟨w.heap.size, 18, none⟩).run Try.prog V2 = .ok (.agg D) V2 := by have h := run_part_load (P := Try.prog) 24 18 D.toList _ N.out KP2.out Try.underlying24 rfl ID.out; rwa [Array.toArray_toList] at h
  replace L52 := Lib.hid L52
  go_wp2_with (((with_reducible refine wpList_load_want (op := ⟨some 18, .load 24 (.tmp 17), _, _, _, _⟩) ?wg52 24 (.tmp 17) ?wo52 ⟨w.heap.size, 18, none⟩ ?wx52 (.agg D) L52.out ?_); (case wg52 => rfl); (case wo52 => rfl); (case wx52 => rfl)))
  clear L52
  refine (CV2.out V2).mono ?_
  rintro e V3 ⟨rfl, hy⟩
  replace K := Lib.hid (K.out.trans (hy.mono K.out.size))
  replace N := Lib.hid (N.out.below hy N.out.lt)
  clear hy
  have L53 := (N.out.cell 1).trans G1.out
  have L54 := (N.out.cell 18).trans G18.out
  go_wp2
  go_ret
  exact ⟨rfl, K.out⟩
set_option maxRecDepth 100000 in
theorem p_cases (p : Nat) : p = 6 ∨ p = 17 ∨ (p ≠ 6 ∧ p ≠ 17) := by omega
set_option maxRecDepth 100000 in
theorem kvalid_any (k : Fl) (hk : k.Fit) (w : World) : Calls Try.prog 51 #[.agg k.cs] w fun e w' => e = .returned (.bool (vK k)) ∧ Below w.heap.size w w' := by
  rcases p_cases k.p with hp | hp | hp
  · cases hq : k.sv == k.dv with
    | false => rw [show vK k = false from by unfold vK; rw [hq]; simp]; exact kvalid_6k k hk hp hq w
    | true =>
      cases hS : vldA k.sv k.S with
      | false => rw [show vK k = false from by unfold vK; rw [hS]; simp]; exact kvalid_6s k hk hp hq hS w
      | true => rw [show vK k = vldA k.dv k.D from by unfold vK; rw [hS, hq, hp]; simp]; exact kvalid_6y k hk hp hq hS w
  · cases hq : k.sv == k.dv with
    | false => rw [show vK k = false from by unfold vK; rw [hq]; simp]; exact kvalid_17k k hk hp hq w
    | true =>
      cases hS : vldA k.sv k.S with
      | false => rw [show vK k = false from by unfold vK; rw [hS]; simp]; exact kvalid_17s k hk hp hq hS w
      | true => rw [show vK k = vldA k.dv k.D from by unfold vK; rw [hS, hq, hp]; simp]; exact kvalid_17y k hk hp hq hS w
  · rw [show vK k = false from by unfold vK; rw [decide_eq_false hp.1, decide_eq_false hp.2]; simp]; exact kvalid_0 k hk hp w
set_option maxRecDepth 100000 in
theorem rvalid_any (k : Fl) (hk : k.Fit) (w : World) : Calls Try.prog 13 #[.agg k.cs] w fun e w' => e = .returned (.bool (vK k)) ∧ Below w.heap.size w w' := by
  rcases p_cases k.p with hp | hp | hp
  · cases hS : vldA k.sv k.S with
    | false => rw [show vK k = false from by unfold vK; rw [hS]; simp]; exact rvalid_6s k hk hp hS w
    | true =>
      cases hD : vldA k.dv k.D with
      | false => rw [show vK k = false from by unfold vK; rw [hD]; simp]; exact rvalid_6d k hk hp hS hD w
      | true => rw [show vK k = (k.sv == k.dv) from by unfold vK; rw [hS, hD, hp]; simp]; exact rvalid_6y k hk hp hS hD w
  · cases hS : vldA k.sv k.S with
    | false => rw [show vK k = false from by unfold vK; rw [hS]; simp]; exact rvalid_17s k hk hp hS w
    | true =>
      cases hD : vldA k.dv k.D with
      | false => rw [show vK k = false from by unfold vK; rw [hD]; simp]; exact rvalid_17d k hk hp hS hD w
      | true => rw [show vK k = (k.sv == k.dv) from by unfold vK; rw [hS, hD, hp]; simp]; exact rvalid_17y k hk hp hS hD w
  · rw [show vK k = false from by unfold vK; rw [decide_eq_false hp.1, decide_eq_false hp.2]; simp]; exact rvalid_0 k hk hp w
end Go.Proofs.Ytblkpnjmmdbgnaa
namespace Go.Proofs.Ytblkpnjmmdbgnaa
open Go.RowKit
set_option maxRecDepth 100000 in
theorem wpList_app {w : World} {ops : Array Oper} {rest : List Oper} {o : Oper} {a : Act} {Q : Exit → Act → World → Prop} (hw : Region.wanted o (yielded ops a.tmps) = true) (s x : Operand)
    (ho : o.op = .call { callee := .builtin .append, args := #[s, x], argTypes := #[77, 77] })
    (base : Nat) (v : Value) (n : Nat) (zs : List Nat) (hs : a.eval s = v) (hown : w.ownsRow base 5 1 v n (nus .u8 zs))
    (ao : Option Addr) (len cap : Nat) (bs : List Nat) (hx : a.eval x = .slice ao len cap) (hr : Rd w (.slice ao len cap) (nus .u8 bs)) (hn : ao = none → cap = 0) (hlen : n + len ≤ 1000000) (hbase : base ≤ w.heap.size)
    (h : ∀ v' w', w'.ownsRow base 5 1 v' (n + len) (nus .u8 (zs ++ bs)) → w.grownBy w' v.ownBlock → wpList Try.prog ops Q rest (a.put o.dst v') w') :
    wpList Try.prog ops Q (o :: rest) a w := by
  obtain ⟨i0, hi, hz0, hz1, hz2⟩ := info_parts Try.info5
  obtain ⟨a', cap', e, h1, h2, h3⟩ := hr
  simp only [Value.slice.injEq] at e
  obtain ⟨rfl, he, rfl⟩ := e
  rw [nus_length] at he h1 h3
  subst he
  refine BigFrame.wpList_want hw fun K hK => ?_
  cases ao with
  | none =>
    obtain rfl := hn rfl
    have hb : bs = [] := by cases bs with | nil => rfl | cons _ _ => simp at h1
    subst hb
    have hrun := run_append_owned_none (P := Try.prog) (w := w) base 77 o.type 5 i0 1 Try.underlying77 hi v n (nus .u8 zs) hown
    unfold Oper.wp
    simp [execOp, ho, resolve, invoke, builtin, hs, hx, hrun, Result.andThen]
    exact hK _ _ (h v w (by simpa using hown) (World.grownBy.refl _ _))
  | some ad =>
    refine wp_append_own w s x 77 ho base 5 i0 (.int .u8 0) 1 1 Try.underlying77 hi hz0 hz1 hz2 rfl (by decide) v n (nus .u8 zs) hs hown ad bs.length cap (nus .u8 bs) hx (by rw [nus_length]; omega) ?_ (oneCell_nus _ _) (by unfold maxLen; omega) (by omega) hbase ?_
    · intro j u hj
      rcases h3 with h3 | ⟨b, off, e, hb, hcc⟩
      · rw [h3] at hj; simp at hj
      · cases e
        have hjl : j < (nus .u8 bs).length := (List.getElem?_eq_some_iff.1 hj).1
        rw [nus_length] at hjl
        rw [← hj]
        rw [Addr.add_lit]; exact hcc j hjl
    · intro v' w' hown' hgr _
      exact hK _ _ (h v' w' (by rw [nus_append]; exact hown') hgr)
set_option maxRecDepth 100000 in
theorem own_none (w : World) (e : TypeId) : (w.alloc (.cells #[] e)).ownsRow w.heap.size e 1 (.slice (some ⟨w.heap.size, 0, none⟩) 0 0) 0 (nus .u8 []) :=
  own_of_heap (show (w.heap.push (.cells #[] e))[w.heap.size]? = _ by simp [nus]) (Nat.le_refl _) rfl (by simp [maxLen])
end Go.Proofs.Ytblkpnjmmdbgnaa
namespace Go.Proofs.Ytblkpnjmmdbgnaa
open Go.RowKit
set_option maxRecDepth 100000 in
theorem own_front {w : World} {base g cap : Nat} {e : TypeId} {cur : Array Value} (hg : w.heap[g]? = some (.cells cur e (0, 0))) (hb : base ≤ g) (hc : cur.size = cap) (hm : cap ≤ maxLen) :
    w.ownsRow base e 1 (.slice (some ⟨g, 0, none⟩) 0 cap) 0 (nus .u8 []) :=
  ⟨by simp [nus], .inr ⟨g, cap, cur, rfl, hb, hg, Nat.zero_le _, hm, by simpa using hc, by simp [nus]⟩⟩
set_option maxRecDepth 100000 in
set_option maxHeartbeats 1000000 in
theorem grow_nil (n : Nat) (w : World) (h0 : 0 < n) (hn : n ≤ 1000000) :
    Calls Try.prog 59 #[.slice none 0 0, .int .i64 (n : Int)] w fun e w' => ∃ x, e = .returned x ∧ w'.ownsRow w.heap.size 5 1 x 0 (nus .u8 []) ∧ Below w.heap.size w w' := by
  obtain ⟨i, hi, hz, hs, hby⟩ := info_parts Try.info5
  have hr := Lib.hid (Lib.run_append_nil_zeros (P := Try.prog) w 77 3 77 5 i (.int .u8 0) .i64 .i64 Try.underlying77 Try.underlying3 hi hz n h0 (by omega) (by omega) (by rw [hby]; omega))
  have hcm := grownCap_le_maxLen w n 0 5 (by unfold maxLen; omega)
  have hge := grownCap_ge w n 0 5
  have hsz : (Builtin.zeroCells (Value.int .u8 0).cells n ++ Builtin.zeroCells (Value.int .u8 0).cells (grownCap w n 0 5 - n)).size = grownCap w n 0 5 := by
    rw [Array.size_append, size_zeroCells, size_zeroCells]
    show n * 1 + (grownCap w n 0 5 - n) * 1 = _
    omega
  generalize Builtin.zeroCells (Value.int .u8 0).cells n ++ Builtin.zeroCells (Value.int .u8 0).cells (grownCap w n 0 5 - n) = cur at *
  have hown := Lib.hid (own_front (base := w.heap.size) (heap_alloc_new w.drew (.cells cur 5)) (Nat.le_refl _) hsz hcm)
  have hbel := Lib.hid ((Below.refl w.heap.size w).drew.alloc (Nat.le_refl _) (.cells cur 5))
  generalize grownCap w n 0 5 = cap at *
  unfold maxLen at hcm
  clear hi hz hs hby hsz
  have hd1 : decide ((n : Int) < 0) = false := decide_eq_false (by omega)
  have hd2 : decide (0 < n) = true := decide_eq_true (by omega)
  go_enter Try.func59, Try.ntmps59
  go_wp2_with (refine Lib.wpList_append_run _ rfl (.tmp 20) (.tmp 21) 77 3 rfl _ _ rfl rfl _ _ hr.out ?_)
  go_wp2
  go_ret
  exact ⟨_, rfl, hown.out, hbel.out⟩
end Go.Proofs.Ytblkpnjmmdbgnaa
namespace Go.Proofs.Ytblkpnjmmdbgnaa
open Go.RowKit
def csN (n : Nat → Nat) : Nat → Nat
  | 0 => 0
  | j + 1 => csN n j + n j
def crN (z : Nat → List Nat) : Nat → List Nat
  | 0 => []
  | j + 1 => crN z j ++ z j
set_option maxRecDepth 100000 in
theorem csN_le (n : Nat → Nat) {j k : Nat} (h : j ≤ k) : csN n j ≤ csN n k := by
  induction h with
  | refl => exact Nat.le_refl _
  | step _ ih => exact Nat.le_trans ih (Nat.le_add_right _ _)
set_option maxRecDepth 100000 in
theorem lt_cell {w : World} {b o : Nat} {v : Value} (h : w.cell? ⟨b, o, none⟩ = some v) : b < w.heap.size := by
  rcases Nat.lt_or_ge b w.heap.size with q | q
  · exact q
  · simp [World.cell?, Array.getElem?_eq_none q] at h
end Go.Proofs.Ytblkpnjmmdbgnaa
namespace Go.Proofs.Ytblkpnjmmdbgnaa
open Go.RowKit
set_option maxRecDepth 100000 in
set_option maxHeartbeats 2000000 in
theorem concat_any (cnt : Nat) (hcnt : cnt ≤ 1000) (b : Nat) (a : Nat → Option Addr) (n c : Nat → Nat) (z : Nat → List Nat) (w : World)
    (hc : ∀ j, j < cnt → w.cell? ⟨b, j, none⟩ = some (.slice (a j) (n j) (c j))) (hr : ∀ j, j < cnt → Rd w (.slice (a j) (n j) (c j)) (nus .u8 (z j)))
    (h0 : ∀ j, j < cnt → a j = none → c j = 0) (hl : ∀ j, j < cnt → (z j).length = n j) (hp : 0 < csN n cnt) (hm : csN n cnt ≤ 1000000) :
    Calls Try.prog 53 #[.slice (some ⟨b, 0, none⟩) cnt cnt] w fun e w' => ∃ x, e = .returned x ∧ w'.ownsRow w.heap.size 5 1 x (csN n cnt) (nus .u8 (crN z cnt)) ∧ Below w.heap.size w w' := by
  have hb : b < w.heap.size := by
    rcases Nat.eq_zero_or_pos cnt with q | q
    · rw [q] at hp; exact absurd hp (by simp [csN])
    · exact lt_cell (hc 0 q)
  have C := Lib.hid hc
  have H := Lib.hid hr
  have H0 := Lib.hid h0
  have HL := Lib.hid hl
  have M := Lib.hid (fun (j : Nat) (h : j ≤ cnt) => Nat.le_trans (csN_le n h) hm)
  obtain ⟨N, hN⟩ : ∃ N, N = csN n cnt := ⟨_, rfl⟩
  have HN := Lib.hid hN
  have hd1 : decide ((N : Int) < 0) = false := decide_eq_false (by omega)
  rw [← hN] at hp hm ⊢
  clear hc hr h0 hl hN
  go_enter Try.func53, Try.ntmps53
  go_wp2_with fail
  go_loop [3, 11] (fun s i => ∃ j : Nat, j ≤ cnt ∧ i = .int .i64 (j : Int) ∧ s = .int .i64 (csN n j : Nat)) (fun _ i => cnt - (intOf i).toNat)
  case atStart => exact ⟨0, by omega, rfl, rfl⟩
  case round =>
    obtain ⟨j, hj, rfl, rfl⟩ := hrel
    by_cases hjc : j < cnt
    · have c0 := C.out j hjc
      have m0 := M.out j hj
      have m1 := M.out (j + 1) hjc
      rw [csN] at m1
      have e1 : IntKind.i64.wrap ((csN n j : Int) + (n j : Int)) = ((csN n (j + 1) : Nat) : Int) := by rw [IntKind.wrap_i64, csN]; omega
      have E1 := Lib.hid e1
      have j1 : (j : Int) < (cnt : Int) := by omega
      have d1 : decide (((csN n (j + 1) : Nat) : Int) < 0) = false := decide_eq_false (by omega)
      have HT := Lib.hid (show ∃ T, T = csN n (j + 1) from ⟨_, rfl⟩)
      obtain ⟨T, hT⟩ := HT.out
      have HT := Lib.hid hT
      rw [← hT] at e1 d1
      clear E1 hT
      generalize csN n j = S at *
      generalize n j = m at *
      go_wp2
      go_round
      case rel => exact ⟨j + 1, by omega, by go_num, by rw [HT.out]⟩
      case measure => simp [intOf]; omega
    · obtain rfl : cnt = j := by omega
      rw [← HN.out]
      go_wp2_with fail
      refine (grow_nil N w hp hm).mono ?_; rintro e w1 ⟨x, rfl, ho, hbw⟩
      have O := Lib.hid ho
      have B := Lib.hid hbw
      clear ho hbw hd1
      go_wp2_with fail
      go_loopw [6, 27] (fun s i wr => ∃ j : Nat, j ≤ cnt ∧ i = .int .i64 (j : Int) ∧ wr.ownsRow w.heap.size 5 1 s (csN n j) (nus .u8 (crN z j)) ∧ Below w.heap.size w wr) (fun _ i _ => cnt - (intOf i).toNat)
      case atStart => exact ⟨0, by omega, rfl, O.out, B.out⟩
      case round =>
        obtain ⟨j, hj, rfl, ho, hbw⟩ := hrel
        have OJ := Lib.hid ho
        have BJ := Lib.hid hbw
        clear ho hbw
        by_cases hjc : j < cnt
        · have c0 := (BJ.out.cell (p := ⟨b, j, none⟩) hb).trans (C.out j hjc)
          have R1 := Lib.hid ((H.out j hjc).below BJ.out)
          have m0 := M.out j hj
          have hl := HL.out j hjc
          have h0 := Lib.hid (H0.out j hjc)
          have b0 := BJ.out.size
          have m1 := M.out (j + 1) hjc
          rw [csN] at m1
          have j1 : (j : Int) < (cnt : Int) := by omega
          have EC : Hid (csN n (j + 1) = csN n j + n j) := rfl
          have ER : Hid (crN z (j + 1) = crN z j ++ z j) := rfl
          obtain ⟨T, hT⟩ : ∃ T, T = csN n (j + 1) := ⟨_, rfl⟩
          obtain ⟨U, hU⟩ : ∃ U, U = crN z (j + 1) := ⟨_, rfl⟩
          rw [← hT] at EC
          rw [← hU] at ER
          have HT := Lib.hid hT
          have HU := Lib.hid hU
          clear hT hU
          generalize csN n j = S at *
          generalize crN z j = X at *
          generalize n j = m at *
          generalize z j = Y at *
          generalize a j = A at *
          generalize c j = k at *
          subst hl
          go_wp2_with (at_builtin; refine wpList_app rfl (.tmp 31) (.tmp 32) rfl w.heap.size _ S X rfl OJ.out A Y.length k Y rfl R1.out h0.out ?x0a ?x0b ?x0c)
          case x0a => omega
          case x0b => exact b0
          intro v2 w2 o2 g2
          have K2 := Lib.hid (BJ.out.grown g2 BJ.out.size (fun k e => (OJ.out.lt k e).1))
          have O2 : Hid (w2.ownsRow w.heap.size 5 1 v2 T (nus .u8 U)) := by show World.ownsRow _ _ _ _ _ _ _; rw [EC.out, ER.out]; exact o2
          clear o2 g2 c0 EC ER
          go_wp2
          go_roundw
          case rel => exact ⟨j + 1, by omega, by go_num, by rw [← HT.out, ← HU.out]; exact O2.out, K2.out⟩
          case measure => simp [intOf]; omega
        · obtain rfl : cnt = j := by omega
          rw [← HN.out] at OJ
          have O1 := Lib.hid OJ.out
          clear OJ hj hjc
          go_wp2
          go_ret
          exact ⟨_, rfl, O1.out, BJ.out⟩
set_option maxRecDepth 100000 in
theorem concat_3 (b : Nat) (a0 a1 a2 : Option Addr) (n0 n1 n2 c0 c1 c2 : Nat) (z0 z1 z2 : List Nat) (w : World) (B : Blk w b 77 #[.slice a0 n0 c0, .slice a1 n1 c1, .slice a2 n2 c2])
    (r0 : Rd w (.slice a0 n0 c0) (nus .u8 z0)) (r1 : Rd w (.slice a1 n1 c1) (nus .u8 z1)) (r2 : Rd w (.slice a2 n2 c2) (nus .u8 z2))
    (h0 : a0 = none → c0 = 0) (h1 : a1 = none → c1 = 0) (h2 : a2 = none → c2 = 0) (l0 : z0.length = n0) (l1 : z1.length = n1) (l2 : z2.length = n2) (hp : 0 < n0) (hm : n0 + n1 + n2 ≤ 1000000) :
    Calls Try.prog 53 #[.slice (some ⟨b, 0, none⟩) 3 3] w fun e w' => ∃ x, e = .returned x ∧ w'.ownsRow w.heap.size 5 1 x (n0 + n1 + n2) (nus .u8 (z0 ++ (z1 ++ z2))) ∧ Below w.heap.size w w' := by
  have := concat_any 3 (by omega) b (fun j => match j with | 0 => a0 | 1 => a1 | _ => a2) (fun j => match j with | 0 => n0 | 1 => n1 | _ => n2) (fun j => match j with | 0 => c0 | 1 => c1 | _ => c2) (fun j => match j with | 0 => z0 | 1 => z1 | _ => z2) w
    (fun j hj => by match j, hj with | 0, _ => exact B.cell 0 | 1, _ => exact B.cell 1 | 2, _ => exact B.cell 2)
    (fun j hj => by match j, hj with | 0, _ => exact r0 | 1, _ => exact r1 | 2, _ => exact r2)
    (fun j hj => by match j, hj with | 0, _ => exact h0 | 1, _ => exact h1 | 2, _ => exact h2)
    (fun j hj => by match j, hj with | 0, _ => exact l0 | 1, _ => exact l1 | 2, _ => exact l2)
    (by simp only [csN]; omega) (by simp only [csN]; omega)
  simpa [csN, crN] using this
end Go.Proofs.Ytblkpnjmmdbgnaa
namespace Go.Proofs.Ytblkpnjmmdbgnaa
open Go.RowKit
set_option maxRecDepth 100000 in
theorem bytesA_n (v : Bool) (bs : List Nat) (h : bs.length = 16) : 0 < (bytesA v bs).length ∧ (bytesA v bs).length ≤ 16 := by
  unfold bytesA
  split
  · omega
  · rw [List.length_take]; omega
set_option maxRecDepth 100000 in
theorem bK_no {k : Fl} (h : vK k = false) : bK k = [] := by unfold bK; rw [h]; rfl
set_option maxRecDepth 100000 in
theorem bK_yes {k : Fl} (h : vK k = true) : bK k = bR k := by unfold bK; rw [h]; rfl
set_option maxRecDepth 100000 in
theorem rd_blk2 {w : World} {g p q : Nat} (h : Blk w g 5 #[.int .u8 (p : Int), .int .u8 (q : Int)]) : Rd w (.slice (some ⟨g, 0, none⟩) 2 2) (nus .u8 [p, q]) := by
  refine ⟨_, _, rfl, Nat.le_refl _, by simp [maxLen], .inr ⟨g, 0, rfl, h.lt, fun i hi => ?_⟩⟩
  rw [Nat.zero_add, h.cell i]
  simp [nus]
set_option maxRecDepth 100000 in
set_option maxHeartbeats 4000000 in
theorem kbytes_no (k : Fl) (hk : k.Fit) (hv : vK k = false) (w : World) :
    Calls Try.prog 42 #[.agg k.cs] w fun e w' => e = .returned (.slice none 0 0) ∧ Below w.heap.size w w' := by
  have K := Lib.hid (Below.refl w.heap.size w)
  have CV := Lib.hid (fun W => kvalid_any k hk W)
  rw [hv] at CV
  obtain ⟨a0, a1, a18, a35, a36⟩ := fl_get k hk
  have G0 := Lib.hid a0
  have G1 := Lib.hid a1
  have G18 := Lib.hid a18
  have G35 := Lib.hid a35
  have G36 := Lib.hid a36
  have KP1 := Lib.hid (fl_src k)
  have KP2 := Lib.hid (fl_dst k hk)
  have IS := Lib.hid (fl_is k hk)
  have ID := Lib.hid (fl_id k hk)
  have IK := Lib.hid (fl_ik k hk)
  clear a0 a1 a18 a35 a36
  generalize k.cs = kc at *
  generalize cellsA k.sv k.S = S at *
  generalize cellsA k.dv k.D = D at *
  generalize k.p = p at *
  generalize k.sv = sv at *
  generalize k.dv = dv at *
  generalize k.sp = sp at *
  generalize k.dp = dp at *
  clear hk hv
  go_enter Try.func42, Try.ntmps42
  have hal := (Below.refl w.heap.size w).alloc (Nat.le_refl _) (.cells kc 31)
  replace K := Lib.hid (K.out.trans (hal.mono K.out.size))
  have N := Lib.hid (Blk.new w 31 kc)
  clear hal
  have L1 : (loadVar 31 ⟨w.heap.size, 0, none⟩).run Try.prog (w.alloc (.cells kc 31)) = .ok (.agg kc) (w.alloc (.cells kc 31)) := run_blk_load (P := Try.prog) 31 (w.heap.size) _ N.out Try.underlying31 rfl IK.out
  replace L1 := Lib.hid L1
  go_wp2_with (((with_reducible refine wpList_load_want (op := ⟨some 5, .load 31 (.tmp 1), _, _, _, _⟩) ?wg1 31 (.tmp 1) ?wo1 ⟨w.heap.size, 0, none⟩ ?wx1 (.agg kc) L1.out ?_); (case wg1 => rfl); (case wo1 => rfl); (case wx1 => rfl)))
  clear L1
  have hzV1 : Hid ((w.alloc (.cells kc 31)).heap.size = w.heap.size + 1) := by show _ = _; simp only [World.size_alloc]
  generalize (w.alloc (.cells kc 31)) = V1 at *
  refine (CV.out V1).mono ?_
  rintro e V2 ⟨rfl, hy⟩
  replace K := Lib.hid (K.out.trans (hy.mono K.out.size))
  replace N := Lib.hid (N.out.below hy N.out.lt)
  clear hy
  go_wp2
  go_ret
  exact ⟨rfl, K.out⟩
set_option maxRecDepth 100000 in
set_option maxHeartbeats 4000000 in
theorem kbytes_yes (k : Fl) (hk : k.Fit) (hv : vK k = true) (w : World) :
    Calls Try.prog 42 #[.agg k.cs] w fun e w' => ∃ x, e = .returned x ∧ Rd w' x (nus .u8 (bK k)) ∧ Below w.heap.size w w' := by
  have K := Lib.hid (Below.refl w.heap.size w)
  have CV := Lib.hid (fun W => kvalid_any k hk W)
  rw [hv] at CV
  rw [bK_yes hv]
  have CK := Lib.hid (fun W => kindOf_any k.sv k.S W)
  have CB1 := Lib.hid (fun W => bytes_own k.sv k.S hk.lS W)
  have CB2 := Lib.hid (fun W => bytes_own k.dv k.D hk.lD W)
  obtain ⟨n1a, n1b⟩ := bytesA_n k.sv k.S hk.lS
  obtain ⟨n2a, n2b⟩ := bytesA_n k.dv k.D hk.lD
  have hsp := hk.sp
  have hdp := hk.dp
  have HB : Hid (bR k = ([k.p, kdN k.sv] ++ (bytesA k.sv k.S ++ bytesA k.dv k.D)) ++ bg 2 k.sp ++ bg 2 k.dp) := by show _ = _; unfold bR kdN; simp
  obtain ⟨a0, a1, a18, a35, a36⟩ := fl_get k hk
  have G0 := Lib.hid a0
  have G1 := Lib.hid a1
  have G18 := Lib.hid a18
  have G35 := Lib.hid a35
  have G36 := Lib.hid a36
  have KP1 := Lib.hid (fl_src k)
  have KP2 := Lib.hid (fl_dst k hk)
  have IS := Lib.hid (fl_is k hk)
  have ID := Lib.hid (fl_id k hk)
  have IK := Lib.hid (fl_ik k hk)
  clear a0 a1 a18 a35 a36
  unfold adr at CK CB1 CB2
  generalize bR k = BR at *
  generalize bytesA k.sv k.S = B1 at *
  generalize bytesA k.dv k.D = B2 at *
  generalize kdN k.sv = kd at *
  generalize k.cs = kc at *
  generalize cellsA k.sv k.S = S at *
  generalize cellsA k.dv k.D = D at *
  generalize k.p = p at *
  generalize k.sv = sv at *
  generalize k.dv = dv at *
  generalize k.sp = sp at *
  generalize k.dp = dp at *
  clear hk hv
  obtain ⟨m1, hm1⟩ : ∃ m, m = B1.length := ⟨_, rfl⟩
  obtain ⟨m2, hm2⟩ : ∃ m, m = B2.length := ⟨_, rfl⟩
  rw [← hm1] at CB1 n1a n1b
  rw [← hm2] at CB2 n2a n2b
  have HM1 := Lib.hid hm1
  have HM2 := Lib.hid hm2
  clear hm1 hm2
  go_enter Try.func42, Try.ntmps42
  have hal := (Below.refl w.heap.size w).alloc (Nat.le_refl _) (.cells kc 31)
  replace K := Lib.hid (K.out.trans (hal.mono K.out.size))
  have N := Lib.hid (Blk.new w 31 kc)
  clear hal
  have L2 : (loadVar 31 ⟨w.heap.size, 0, none⟩).run Try.prog (w.alloc (.cells kc 31)) = .ok (.agg kc) (w.alloc (.cells kc 31)) := run_blk_load (P := Try.prog) 31 (w.heap.size) _ N.out Try.underlying31 rfl IK.out
  replace L2 := Lib.hid L2
  go_wp2_with (((with_reducible refine wpList_load_want (op := ⟨some 5, .load 31 (.tmp 1), _, _, _, _⟩) ?wg2 31 (.tmp 1) ?wo2 ⟨w.heap.size, 0, none⟩ ?wx2 (.agg kc) L2.out ?_); (case wg2 => rfl); (case wo2 => rfl); (case wx2 => rfl)))
  clear L2
  have hzV1 : Hid ((w.alloc (.cells kc 31)).heap.size = w.heap.size + 1) := by show _ = _; simp only [World.size_alloc]
  generalize (w.alloc (.cells kc 31)) = V1 at *
  refine (CV.out V1).mono ?_
  rintro e V2 ⟨rfl, hy⟩
  replace K := Lib.hid (K.out.trans (hy.mono K.out.size))
  replace N := Lib.hid (N.out.below hy N.out.lt)
  clear hy
  go_wp2_with fail
  refine wp_region_held (S := (fun w' : World => Below (V2.heap.size) V2 w')) (by kernel_rfl) ?_
  change wpAnyH _ _ _ _ _ _ _ _ V2.drew
  have hy : Below V2.heap.size V2 V2.drew := (Below.refl _ _).drew
  have hE0 : Below (V2.heap.size) V2 V2.drew := (Below.refl _ _).drew
  clear hy
  generalize V2.drew = Y3x0 at hE0  ⊢
  have E0 := Lib.hid hE0
  clear hE0
  refine tkA 0 (?_) ?_ E0.out ?_
  rotate_left
  · (intro w1 hS; go_simp; try with_reducible rfl)
  simp only [Act.put, tS1, tS2, tS3]
  refine tkA 1 (?_) ?_ E0.out ?_
  rotate_left
  · (intro w1 hS; have hW := hS; have q := ((N.out.below hW N.out.lt).cell 0).trans G0.out; clear hW hS; go_simp; try with_reducible rfl)
  simp only [Act.put, tS1, tS2, tS3]
  refine tkA 2 (?_) ?_ E0.out ?_
  rotate_left
  · (intro w1 hS; go_simp; try with_reducible rfl)
  simp only [Act.put, tS1, tS2, tS3]
  refine tkA 3 (.agg S) ?_ E0.out ?_
  · (intro w1 hS; have hW := hS; exact exec_load 24 (.tmp 10) rfl _ rfl _ (by have h := run_part_load (P := Try.prog) 24 1 S.toList _ (N.out.below hW N.out.lt) KP1.out Try.underlying24 rfl IS.out; rwa [Array.toArray_toList] at h))
  simp only [Act.put, tS1, tS2, tS3]
  refine tkO 4 (fun KK hK => ?_)
  go_simp
  refine (CK.out Y3x0).mono ?_
  rintro e Y3x1 ⟨rfl, hy⟩
  have E1 := Lib.hid (E0.out.trans (hy.mono E0.out.size))
  have C1 := Lib.hid E1.out
  clear hy E0
  refine hK.out _ _ C1.out (fun _ => ?_)
  clear hK KK
  refine wpAnyH_mono (S' := (fun w' : World => Below Y3x1.heap.size Y3x1 w')) (fun w1 h => C1.out.trans (h.mono C1.out.size)) _ _ _ _ ?_
  clear C1
  try simp only [Act.put, tS1, tS2, tS3]
  refine tkO 5 (fun KK hK => ?_)
  go_simp
  have hy := (Below.refl Y3x1.heap.size Y3x1).alloc (Nat.le_refl _) (.cells #[Value.int .u8 (p : Int), .int .u8 (kd : Int)] 5)
  have BB := Blk.new Y3x1 5 #[Value.int .u8 (p : Int), .int .u8 (kd : Int)]
  obtain ⟨ga, hga⟩ : ∃ g, g = Y3x1.heap.size := ⟨_, rfl⟩
  rw [← hga] at BB
  rw [← hga]
  generalize Y3x1.alloc (.cells #[Value.int .u8 (p : Int), .int .u8 (kd : Int)] 5) = Y3x2 at BB hy ⊢
  clear hga
  have E2 := Lib.hid (E1.out.trans (hy.mono E1.out.size))
  have C2 := Lib.hid hy
  have BA := Lib.hid (BB)
  clear BB
  clear hy E1
  refine hK.out _ _ C2.out (fun _ => ?_)
  clear hK KK
  refine wpAnyH_mono (S' := (fun w' : World => Below Y3x2.heap.size Y3x2 w')) (fun w1 h => C2.out.trans (h.mono C2.out.size)) _ _ _ _ ?_
  clear C2
  try simp only [Act.put, tS1, tS2, tS3]
  refine tkA 6 (?_) ?_ (Below.refl _ _) ?_
  rotate_left
  · (intro w1 hS; go_simp; try with_reducible rfl)
  simp only [Act.put, tS1, tS2, tS3]
  refine wpAnyH_done (by kernel_rfl) ?_ _
  have hy := E2.out
  replace K := Lib.hid (K.out.trans (hy.mono K.out.size))
  replace N := Lib.hid (N.out.below hy N.out.lt)
  clear hy E2
  go_wp2_with fail
  refine wp_region_held (S := (fun w' : World => Below (Y3x2.heap.size) Y3x2 w')) (by kernel_rfl) ?_
  change wpAnyH _ _ _ _ _ _ _ _ Y3x2.drew
  have hy : Below Y3x2.heap.size Y3x2 Y3x2.drew := (Below.refl _ _).drew
  have hE0 : Below (Y3x2.heap.size) Y3x2 Y3x2.drew := (Below.refl _ _).drew
  clear hy
  generalize Y3x2.drew = Y4x0 at hE0  ⊢
  have E0 := Lib.hid hE0
  clear hE0
  refine tkA 0 (?_) ?_ E0.out ?_
  rotate_left
  · (intro w1 hS; go_simp; try with_reducible rfl)
  simp only [Act.put, tS1, tS2, tS3]
  refine tkA 1 (?_) ?_ E0.out ?_
  rotate_left
  · (intro w1 hS; go_simp; try with_reducible rfl)
  simp only [Act.put, tS1, tS2, tS3]
  refine tkA 2 (.agg S) ?_ E0.out ?_
  · (intro w1 hS; have hW := hS; exact exec_load 24 (.tmp 15) rfl _ rfl _ (by have h := run_part_load (P := Try.prog) 24 1 S.toList _ (N.out.below hW N.out.lt) KP1.out Try.underlying24 rfl IS.out; rwa [Array.toArray_toList] at h))
  simp only [Act.put, tS1, tS2, tS3]
  refine tkA 4 (?_) ?_ E0.out ?_
  rotate_left
  · (intro w1 hS; go_simp; try with_reducible rfl)
  simp only [Act.put, tS1, tS2, tS3]
  refine tkA 5 (.agg D) ?_ E0.out ?_
  · (intro w1 hS; have hW := hS; exact exec_load 24 (.tmp 18) rfl _ rfl _ (by have h := run_part_load (P := Try.prog) 24 18 D.toList _ (N.out.below hW N.out.lt) KP2.out Try.underlying24 rfl ID.out; rwa [Array.toArray_toList] at h))
  simp only [Act.put, tS1, tS2, tS3]
  refine tkO 3 (fun KK hK => ?_)
  go_simp
  refine (CB1.out Y4x0).mono ?_
  rintro e Y4x1 ⟨z1, rfl, oz1, hy⟩
  have E1 := Lib.hid (E0.out.trans (hy.mono E0.out.size))
  have C1 := Lib.hid E1.out
  have R1 := Lib.hid (Rd.own oz1)
  obtain ⟨g1, c1, rfl, -, -, -, -⟩ := own_at oz1 (by omega)
  clear oz1
  clear hy E0
  refine hK.out _ _ C1.out (fun _ => ?_)
  clear hK KK
  refine wpAnyH_mono (S' := (fun w' : World => Below Y4x1.heap.size Y4x1 w')) (fun w1 h => C1.out.trans (h.mono C1.out.size)) _ _ _ _ ?_
  clear C1
  try simp only [Act.put, tS1, tS2, tS3]
  refine tkO 6 (fun KK hK => ?_)
  go_simp
  refine (CB2.out Y4x1).mono ?_
  rintro e Y4x2 ⟨z2, rfl, oz2, hy⟩
  replace R1 := Lib.hid (R1.out.below hy)
  have E2 := Lib.hid (E1.out.trans (hy.mono E1.out.size))
  have C2 := Lib.hid hy
  have R2 := Lib.hid (Rd.own oz2)
  obtain ⟨g2, c2, rfl, -, -, -, -⟩ := own_at oz2 (by omega)
  clear oz2
  clear hy E1
  refine hK.out _ _ C2.out (fun _ => ?_)
  clear hK KK
  refine wpAnyH_mono (S' := (fun w' : World => Below Y4x2.heap.size Y4x2 w')) (fun w1 h => C2.out.trans (h.mono C2.out.size)) _ _ _ _ ?_
  clear C2
  try simp only [Act.put, tS1, tS2, tS3]
  refine tkO 7 (fun KK hK => ?_)
  go_simp
  have hy := (Below.refl Y4x2.heap.size Y4x2).alloc (Nat.le_refl _) (.cells #[Value.slice (some ⟨ga, 0, none⟩) 2 2, .slice (some ⟨g1, 0, none⟩) m1 c1, .slice (some ⟨g2, 0, none⟩) m2 c2] 77)
  have BB := Blk.new Y4x2 77 #[Value.slice (some ⟨ga, 0, none⟩) 2 2, .slice (some ⟨g1, 0, none⟩) m1 c1, .slice (some ⟨g2, 0, none⟩) m2 c2]
  obtain ⟨gb, hgb⟩ : ∃ g, g = Y4x2.heap.size := ⟨_, rfl⟩
  rw [← hgb] at BB
  rw [← hgb]
  generalize Y4x2.alloc (.cells #[Value.slice (some ⟨ga, 0, none⟩) 2 2, .slice (some ⟨g1, 0, none⟩) m1 c1, .slice (some ⟨g2, 0, none⟩) m2 c2] 77) = Y4x3 at BB hy ⊢
  clear hgb
  replace R1 := Lib.hid (R1.out.below hy)
  replace R2 := Lib.hid (R2.out.below hy)
  have E3 := Lib.hid (E2.out.trans (hy.mono E2.out.size))
  have C3 := Lib.hid hy
  have BL := Lib.hid (BB)
  clear BB
  clear hy E2
  refine hK.out _ _ C3.out (fun _ => ?_)
  clear hK KK
  refine wpAnyH_mono (S' := (fun w' : World => Below Y4x3.heap.size Y4x3 w')) (fun w1 h => C3.out.trans (h.mono C3.out.size)) _ _ _ _ ?_
  clear C3
  try simp only [Act.put, tS1, tS2, tS3]
  refine tkO 8 (fun KK hK => ?_)
  go_simp
  refine (concat_3 gb (some ⟨ga, 0, none⟩) (some ⟨g1, 0, none⟩) (some ⟨g2, 0, none⟩) 2 m1 m2 2 c1 c2 [p, kd] B1 B2 Y4x3 BL.out (rd_blk2 (BA.out.below E3.out BA.out.lt)) R1.out R2.out (by intro e; cases e) (by intro e; cases e) (by intro e; cases e) rfl HM1.out.symm HM2.out.symm (by omega) (by omega)).mono ?_
  rintro e Y4x4 ⟨z3, rfl, oz3, hy⟩
  replace R1 := Lib.hid (R1.out.below hy)
  replace R2 := Lib.hid (R2.out.below hy)
  replace BL := Lib.hid (BL.out.below hy BL.out.lt)
  have E4 := Lib.hid (E3.out.trans (hy.mono E3.out.size))
  have C4 := Lib.hid hy
  have R3 := Lib.hid (own_low (Nat.zero_le _) oz3)
  obtain ⟨g3, c3, rfl, -, -, -, -⟩ := own_at oz3 (by omega)
  clear oz3
  clear hy E3
  refine hK.out _ _ C4.out (fun _ => ?_)
  clear hK KK
  refine wpAnyH_mono (S' := (fun w' : World => Below Y4x4.heap.size Y4x4 w')) (fun w1 h => C4.out.trans (h.mono C4.out.size)) _ _ _ _ ?_
  clear C4
  try simp only [Act.put, tS1, tS2, tS3]
  refine tkA 9 (?_) ?_ (Below.refl _ _) ?_
  rotate_left
  · (intro w1 hS; go_simp; try with_reducible rfl)
  simp only [Act.put, tS1, tS2, tS3]
  refine wpAnyH_done (by kernel_rfl) ?_ _
  have hy := E4.out
  replace K := Lib.hid (K.out.trans (hy.mono K.out.size))
  replace N := Lib.hid (N.out.below hy N.out.lt)
  replace BA := Lib.hid (BA.out.below hy BA.out.lt)
  clear hy E4
  have HM : Hid (([p, kd] ++ (B1 ++ B2)).length = 2 + m1 + m2) := by show _ = _; rw [List.length_append, List.length_append, ← HM1.out, ← HM2.out]; show 2 + _ = _; omega
  go_wp2_with fail
  refine wp_region_held (S := (fun w' : World => Below (Y4x4.heap.size) Y4x4 w')) (by kernel_rfl) ?_
  change wpAnyH _ _ _ _ _ _ _ _ Y4x4.drew
  have hy : Below Y4x4.heap.size Y4x4 Y4x4.drew := (Below.refl _ _).drew
  have hE0 : Below (Y4x4.heap.size) Y4x4 Y4x4.drew := (Below.refl _ _).drew
  clear hy
  generalize Y4x4.drew = Y5x0 at hE0  ⊢
  have E0 := Lib.hid hE0
  clear hE0
  refine tkA 0 (?_) ?_ E0.out ?_
  rotate_left
  · (intro w1 hS; go_simp; try with_reducible rfl)
  simp only [Act.put, tS1, tS2, tS3]
  refine tkA 1 (?_) ?_ E0.out ?_
  rotate_left
  · (intro w1 hS; go_simp; try with_reducible rfl)
  simp only [Act.put, tS1, tS2, tS3]
  refine tkA 2 (?_) ?_ E0.out ?_
  rotate_left
  · (intro w1 hS; have hW := hS; have q := ((N.out.below hW N.out.lt).cell 35).trans G35.out; clear hW hS; go_simp; try with_reducible rfl)
  simp only [Act.put, tS1, tS2, tS3]
  refine tkA 4 (?_) ?_ E0.out ?_
  rotate_left
  · (intro w1 hS; go_simp; try with_reducible rfl)
  simp only [Act.put, tS1, tS2, tS3]
  refine tkA 5 (?_) ?_ E0.out ?_
  rotate_left
  · (intro w1 hS; have hW := hS; have q := ((N.out.below hW N.out.lt).cell 36).trans G36.out; clear hW hS; go_simp; try with_reducible rfl)
  simp only [Act.put, tS1, tS2, tS3]
  refine tkO 3 (fun KK hK => ?_)
  go_simp
  refine (app16_any _ ([p, kd] ++ (B1 ++ B2)) sp Y5x0 ((Rd.own R3.out).below E0.out) (by rw [HM.out]; omega) hsp).mono ?_
  rintro e Y5x1 ⟨z4, rfl, oz4, hy⟩
  have E1 := Lib.hid (E0.out.trans (hy.mono E0.out.size))
  have C1 := Lib.hid E1.out
  have R4 := Lib.hid (Rd.own oz4)
  clear oz4
  clear hy E0
  refine hK.out _ _ C1.out (fun _ => ?_)
  clear hK KK
  refine wpAnyH_mono (S' := (fun w' : World => Below Y5x1.heap.size Y5x1 w')) (fun w1 h => C1.out.trans (h.mono C1.out.size)) _ _ _ _ ?_
  clear C1
  try simp only [Act.put, tS1, tS2, tS3]
  refine tkO 6 (fun KK hK => ?_)
  go_simp
  refine (app16_any _ (([p, kd] ++ (B1 ++ B2)) ++ bg 2 sp) dp Y5x1 R4.out (by rw [List.length_append, HM.out, bg_length]; omega) hdp).mono ?_
  rintro e Y5x2 ⟨z5, rfl, oz5, hy⟩
  replace R4 := Lib.hid (R4.out.below hy)
  have E2 := Lib.hid (E1.out.trans (hy.mono E1.out.size))
  have C2 := Lib.hid hy
  have R5 := Lib.hid (Rd.own oz5)
  clear oz5
  clear hy E1
  refine hK.out _ _ C2.out (fun _ => ?_)
  clear hK KK
  refine wpAnyH_mono (S' := (fun w' : World => Below Y5x2.heap.size Y5x2 w')) (fun w1 h => C2.out.trans (h.mono C2.out.size)) _ _ _ _ ?_
  clear C2
  try simp only [Act.put, tS1, tS2, tS3]
  refine tkA 7 (?_) ?_ (Below.refl _ _) ?_
  rotate_left
  · (intro w1 hS; go_simp; try with_reducible rfl)
  simp only [Act.put, tS1, tS2, tS3]
  refine wpAnyH_done (by kernel_rfl) ?_ _
  have hy := E2.out
  replace K := Lib.hid (K.out.trans (hy.mono K.out.size))
  replace N := Lib.hid (N.out.below hy N.out.lt)
  replace BA := Lib.hid (BA.out.below hy BA.out.lt)
  replace R3 := Lib.hid (row_under R3.out hy)
  clear hy E2
  go_wp2
  go_ret
  exact ⟨_, rfl, by rw [HB.out]; exact R5.out, K.out⟩
end Go.Proofs.Ytblkpnjmmdbgnaa
namespace Go.Proofs.Ytblkpnjmmdbgnaa
open Go.RowKit
set_option maxRecDepth 100000 in
theorem rd_adr {w : World} {g : Nat} {t : TypeId} {v : Bool} {bs : List Nat} (h : Blk w g t (cellsA v bs)) (n : Nat) (hn : n ≤ bs.length) (h16 : n ≤ 16) : Rd w (.slice (some ⟨g, 1, none⟩) n 16) (nus .u8 (bs.take n)) := by
  have hl : (nus .u8 (bs.take n)).length = n := by rw [nus_length]; simp; omega
  refine ⟨_, _, by rw [hl], by rw [hl]; exact h16, by simp [maxLen], .inr ⟨g, 1, rfl, h.lt, fun i hi => ?_⟩⟩
  rw [hl] at hi
  rw [h.cell (1 + i), cellsA_get v bs i (by omega), nus_get _ _ _ (by simp; omega)]
  simp [List.getD_eq_getElem?_getD, hi]
set_option maxRecDepth 100000 in
set_option maxHeartbeats 1000000 in
theorem rbytes_own (v : Bool) (bs : List Nat) (hl : bs.length = 16) (w : World) :
    Calls Try.prog 58 #[adr v bs] w fun e w' => ∃ z, e = .returned z ∧ w'.ownsRow w.heap.size 5 1 z (bytesA v bs).length (nus .u8 (bytesA v bs)) ∧ Below w.heap.size w w' := by
  unfold adr
  have HN := Lib.hid (Blk.new w 24 (cellsA v bs))
  have B0 := (Below.refl w.heap.size w).alloc (Nat.le_refl _) (.cells (cellsA v bs) 24)
  have hc0 : (w.alloc (.cells (cellsA v bs) 24)).cell? ⟨w.heap.size, 0, none⟩ = some (.bool v) := (HN.out.cell 0).trans (by simp [cellsA])
  have R4 := Lib.hid (rd_adr HN.out 4 (by omega) (by omega))
  have R16 := Lib.hid (rd_adr HN.out 16 (by omega) (by omega))
  have e16 : bs.take 16 = bs := List.take_of_length_le (by omega)
  rw [e16] at R16
  have HL := Lib.hid hl
  generalize cellsA v bs = c at *
  generalize hW : w.alloc (.cells c 24) = W at hc0 R4 R16 B0
  have HW := Lib.hid hW
  have hsz : w.heap.size ≤ W.heap.size := by rw [← hW]; simp
  have o1 := own_low hsz (own_none W 5)
  have b1 := (Below.refl W.heap.size W).alloc (Nat.le_refl _) (.cells #[] 5)
  have K1 := Lib.hid (B0.trans (b1.mono hsz))
  have O1 := Lib.hid o1
  have r4 := Lib.hid (R4.out.below b1)
  have r16 := Lib.hid (R16.out.below b1)
  clear hl hW HN B0 e16 o1 b1 R4 R16
  cases v with
  | false =>
    unfold bytesA
    rw [if_neg (by decide), show (bs.take 4).length = 4 from by rw [List.length_take, HL.out]; rfl]
    go_enter Try.func58, Try.ntmps58
    have hWW := HW.out
    go_wp2_with (at_builtin; refine wpList_app rfl (.tmp 6) (.tmp 9) rfl w.heap.size _ 0 [] rfl O1.out (some _) 4 16 (bs.take 4) rfl r4.out ?c1 ?c2 ?c3 ?c4)
    case c1 => intro e; cases e
    case c2 => omega
    case c3 => exact K1.out.size
    intro v2 w2 o2 g2
    have K2 := Lib.hid (K1.out.grown g2 K1.out.size (fun k e => (O1.out.lt k e).1))
    have O2 := Lib.hid o2
    clear o2 g2
    go_wp2
    go_ret
    exact ⟨_, rfl, O2.out, K2.out⟩
  | true =>
    unfold bytesA
    rw [if_pos rfl, show bs.length = 16 from HL.out]
    go_enter Try.func58, Try.ntmps58
    have hWW := HW.out
    go_wp2_with (at_builtin; refine wpList_app rfl (.tmp 6) (.tmp 9) rfl w.heap.size _ 0 [] rfl O1.out (some _) 16 16 bs rfl r16.out ?d1 ?d2 ?d3 ?d4)
    case d1 => intro e; cases e
    case d2 => omega
    case d3 => exact K1.out.size
    intro v2 w2 o2 g2
    have K2 := Lib.hid (K1.out.grown g2 K1.out.size (fun k e => (O1.out.lt k e).1))
    have O2 := Lib.hid o2
    clear o2 g2
    go_wp2
    go_ret
    exact ⟨_, rfl, O2.out, K2.out⟩
end Go.Proofs.Ytblkpnjmmdbgnaa
namespace Go.Proofs.Ytblkpnjmmdbgnaa
open Go.RowKit
set_option maxRecDepth 100000 in
theorem wp_app {w : World} {K : Act → World → Prop} {Q : Exit → Act → World → Prop} {o : Oper} {a : Act} (s x : Operand)
    (ho : o.op = .call { callee := .builtin .append, args := #[s, x], argTypes := #[77, 77] })
    (base : Nat) (v : Value) (n : Nat) (zs : List Nat) (hs : a.eval s = v) (hown : w.ownsRow base 5 1 v n (nus .u8 zs))
    (ao : Option Addr) (len cap : Nat) (bs : List Nat) (hx : a.eval x = .slice ao len cap) (hr : Rd w (.slice ao len cap) (nus .u8 bs)) (hn : ao = none → cap = 0) (hlen : n + len ≤ 1000000) (hbase : base ≤ w.heap.size)
    (h : ∀ v' w', w'.ownsRow base 5 1 v' (n + len) (nus .u8 (zs ++ bs)) → w.grownBy w' v.ownBlock → K (a.put o.dst v') w') :
    o.wp Try.prog a w K Q := by
  obtain ⟨i0, hi, hz0, hz1, hz2⟩ := info_parts Try.info5
  obtain ⟨a', cap', e, h1, h2, h3⟩ := hr
  simp only [Value.slice.injEq] at e
  obtain ⟨rfl, he, rfl⟩ := e
  rw [nus_length] at he h1 h3
  subst he
  cases ao with
  | none =>
    obtain rfl := hn rfl
    have hb : bs = [] := by cases bs with | nil => rfl | cons _ _ => simp at h1
    subst hb
    have hrun := run_append_owned_none (P := Try.prog) (w := w) base 77 o.type 5 i0 1 Try.underlying77 hi v n (nus .u8 zs) hown
    unfold Oper.wp
    simp [execOp, ho, resolve, invoke, builtin, hs, hx, hrun, Result.andThen]
    exact h v w (by simpa using hown) (World.grownBy.refl _ _)
  | some ad =>
    refine wp_append_own w s x 77 ho base 5 i0 (.int .u8 0) 1 1 Try.underlying77 hi hz0 hz1 hz2 rfl (by decide) v n (nus .u8 zs) hs hown ad bs.length cap (nus .u8 bs) hx (by rw [nus_length]; omega) ?_ (oneCell_nus _ _) (by unfold maxLen; omega) (by omega) hbase ?_
    · intro j u hj
      rcases h3 with h3 | ⟨b, off, e, hb, hcc⟩
      · rw [h3] at hj; simp at hj
      · cases e
        have hjl : j < (nus .u8 bs).length := (List.getElem?_eq_some_iff.1 hj).1
        rw [nus_length] at hjl
        rw [← hj]
        rw [Addr.add_lit]; exact hcc j hjl
    · intro v' w' hown' hgr _
      exact h v' w' (by rw [nus_append]; exact hown') hgr
end Go.Proofs.Ytblkpnjmmdbgnaa
