/- Texts that the walks of this seat lean on, put together. -/
import Derived.Test.YthldpnifodbheaaTk
import Derived.Test.YthldpnifodbheaaTl
import Derived.Test.YthldpnifodbheaaM03
import Derived.Test.YthldpnifodbheaaM10
import Derived.Test.YthldpnifodbheaaM11
import Derived.Test.YthldpnifodbheaaM14
import Derived.Test.YthldpnifodbheaaM15
import Derived.Test.YthldpnifodbheaaM17
import Derived.Test.YthldpnifodbheaaM20
namespace Go.Proofs.Ythldpnifodbheaa
open Go.RowKit
set_option maxRecDepth 100000 in
theorem fl_get (k : Fl) (h : k.Fit) : k.cs[0]? = some (.int .u8 (k.p : Int)) ∧ k.cs[1]? = some (.bool k.sv) ∧ k.cs[18]? = some (.bool k.dv) ∧ k.cs[35]? = some (.int .u16 (k.sp : Int)) ∧ k.cs[36]? = some (.int .u16 (k.dp : Int)) := by
  obtain ⟨p, sv, S, dv, D, sp, dp⟩ := k
  obtain ⟨f1, f2, f3, f4, f5, f6, f7⟩ := h
  simp only at f2 f3
  obtain ⟨b0, b1, b2, b3, b4, b5, b6, b7, b8, b9, b10, b11, b12, b13, b14, b15, rfl⟩ := list16 S f2
  obtain ⟨c0, c1, c2, c3, c4, c5, c6, c7, c8, c9, c10, c11, c12, c13, c14, c15, rfl⟩ := list16 D f3
  exact ⟨rfl, rfl, rfl, rfl, rfl⟩
set_option maxRecDepth 100000 in
theorem fl_src (k : Fl) : (k.cs.toList.drop 1).take (cellsA k.sv k.S).toList.length = (cellsA k.sv k.S).toList := kcells_src _ _ _ _ _
set_option maxRecDepth 100000 in
theorem fl_dst (k : Fl) (h : k.Fit) : (k.cs.toList.drop 18).take (cellsA k.dv k.D).toList.length = (cellsA k.dv k.D).toList := kcells_dst _ _ _ _ _ (by rw [cellsA_size, h.lS])
set_option maxRecDepth 100000 in
theorem fl_is (k : Fl) (h : k.Fit) : (Try.prog.info? 26).map (·.size) = some (cellsA k.sv k.S).toList.length := i24.trans (congrArg some (by rw [Array.length_toList, cellsA_size, h.lS]))
set_option maxRecDepth 100000 in
theorem fl_id (k : Fl) (h : k.Fit) : (Try.prog.info? 26).map (·.size) = some (cellsA k.dv k.D).toList.length := i24.trans (congrArg some (by rw [Array.length_toList, cellsA_size, h.lD]))
set_option maxRecDepth 100000 in
theorem fl_ik (k : Fl) (h : k.Fit) : (Try.prog.info? 42).map (·.size) = some k.cs.size := i42.trans (congrArg some (k.cs_size h).symm)
set_option maxRecDepth 100000 in
set_option maxHeartbeats 2000000 in
theorem kvalid_0 (k : Fl) (hk : k.Fit) (hp : k.p ≠ 6 ∧ k.p ≠ 17) (w : World) :
    Calls Try.prog 49 #[.agg k.cs] w fun e w' => e = .returned (.bool false) ∧ Below w.heap.size w w' := by
  have K := lh (Below.refl w.heap.size w)
  have CV1 := lh (fun W => valid_any k.sv k.S hk.lS hk.bS W)
  have CV2 := lh (fun W => valid_any k.dv k.D hk.lD hk.bD W)
  obtain ⟨a0, a1, a18, a35, a36⟩ := fl_get k hk
  have G0 := lh a0
  have G1 := lh a1
  have G18 := lh a18
  have G35 := lh a35
  have G36 := lh a36
  have KP1 := lh (fl_src k)
  have KP2 := lh (fl_dst k hk)
  have IS := lh (fl_is k hk)
  have ID := lh (fl_id k hk)
  have IK := lh (fl_ik k hk)
  clear a0 a1 a18 a35 a36
  have e6 : ((k.p : Int) != 6) = true := by rw [bne_iff_ne]; omega
  have f6 : ((k.p : Int) == 6) = false := by rw [beq_eq_false_iff_ne]; omega
  have e17 : ((k.p : Int) != 17) = true := by rw [bne_iff_ne]; omega
  have f17 : ((k.p : Int) == 17) = false := by rw [beq_eq_false_iff_ne]; omega
  clear hp
  unfold adr at CV1 CV2
  generalize vldA k.sv k.S = vS at *
  generalize vldA k.dv k.D = vD at *
  generalize k.cs = kc at *
  generalize cellsA k.sv k.S = S at *
  generalize cellsA k.dv k.D = D at *
  generalize k.p = p at *
  generalize k.sv = sv at *
  generalize k.dv = dv at *
  generalize k.sp = sp at *
  generalize k.dp = dp at *
  clear hk
  go_enter Try.func49, Try.ntmps49
  have hal := (Below.refl w.heap.size w).alloc (Nat.le_refl _) (.cells kc 42)
  replace K := lh (K.out.trans (hal.mono K.out.size))
  have N := lh (Blk.new w 42 kc)
  clear hal
  have L1 := (N.out.cell 0).trans G0.out
  have L2 := (N.out.cell 0).trans G0.out
  go_wp2
  go_ret
  exact ⟨rfl, K.out⟩
set_option maxRecDepth 100000 in
set_option maxHeartbeats 2000000 in
theorem kvalid_6k (k : Fl) (hk : k.Fit) (hp : k.p = 6) (hq : (k.sv == k.dv) = false) (w : World) :
    Calls Try.prog 49 #[.agg k.cs] w fun e w' => e = .returned (.bool false) ∧ Below w.heap.size w w' := by
  have K := lh (Below.refl w.heap.size w)
  have CV1 := lh (fun W => valid_any k.sv k.S hk.lS hk.bS W)
  have CV2 := lh (fun W => valid_any k.dv k.D hk.lD hk.bD W)
  obtain ⟨a0, a1, a18, a35, a36⟩ := fl_get k hk
  have G0 := lh a0
  have G1 := lh a1
  have G18 := lh a18
  have G35 := lh a35
  have G36 := lh a36
  have KP1 := lh (fl_src k)
  have KP2 := lh (fl_dst k hk)
  have IS := lh (fl_is k hk)
  have ID := lh (fl_id k hk)
  have IK := lh (fl_ik k hk)
  clear a0 a1 a18 a35 a36
  have e6 : ((k.p : Int) != 6) = false := by rw [hp]; rfl
  have f6 : ((k.p : Int) == 6) = true := by rw [hp]; rfl
  clear hp
  unfold adr at CV1 CV2
  generalize vldA k.sv k.S = vS at *
  generalize vldA k.dv k.D = vD at *
  generalize k.cs = kc at *
  generalize cellsA k.sv k.S = S at *
  generalize cellsA k.dv k.D = D at *
  generalize k.p = p at *
  generalize k.sv = sv at *
  generalize k.dv = dv at *
  generalize k.sp = sp at *
  generalize k.dp = dp at *
  clear hk
  go_enter Try.func49, Try.ntmps49
  have hal := (Below.refl w.heap.size w).alloc (Nat.le_refl _) (.cells kc 42)
  replace K := lh (K.out.trans (hal.mono K.out.size))
  have N := lh (Blk.new w 42 kc)
  clear hal
  have L3 := (N.out.cell 0).trans G0.out
  have L4 := (N.out.cell 1).trans G1.out
  have L5 := (N.out.cell 18).trans G18.out
  go_wp2
  go_ret
  exact ⟨rfl, K.out⟩
set_option maxRecDepth 100000 in
set_option maxHeartbeats 2000000 in
theorem kvalid_6s (k : Fl) (hk : k.Fit) (hp : k.p = 6) (hq : (k.sv == k.dv) = true) (hS : vldA k.sv k.S = false) (w : World) :
    Calls Try.prog 49 #[.agg k.cs] w fun e w' => e = .returned (.bool false) ∧ Below w.heap.size w w' := by
  have K := lh (Below.refl w.heap.size w)
  have CV1 := lh (fun W => valid_any k.sv k.S hk.lS hk.bS W)
  have CV2 := lh (fun W => valid_any k.dv k.D hk.lD hk.bD W)
  obtain ⟨a0, a1, a18, a35, a36⟩ := fl_get k hk
  have G0 := lh a0
  have G1 := lh a1
  have G18 := lh a18
  have G35 := lh a35
  have G36 := lh a36
  have KP1 := lh (fl_src k)
  have KP2 := lh (fl_dst k hk)
  have IS := lh (fl_is k hk)
  have ID := lh (fl_id k hk)
  have IK := lh (fl_ik k hk)
  clear a0 a1 a18 a35 a36
  have e6 : ((k.p : Int) != 6) = false := by rw [hp]; rfl
  have f6 : ((k.p : Int) == 6) = true := by rw [hp]; rfl
  clear hp
  unfold adr at CV1 CV2
  generalize vldA k.sv k.S = vS at *
  generalize vldA k.dv k.D = vD at *
  generalize k.cs = kc at *
  generalize cellsA k.sv k.S = S at *
  generalize cellsA k.dv k.D = D at *
  generalize k.p = p at *
  generalize k.sv = sv at *
  generalize k.dv = dv at *
  generalize k.sp = sp at *
  generalize k.dp = dp at *
  clear hk
  subst hS
  go_enter Try.func49, Try.ntmps49
  have hal := (Below.refl w.heap.size w).alloc (Nat.le_refl _) (.cells kc 42)
  replace K := lh (K.out.trans (hal.mono K.out.size))
  have N := lh (Blk.new w 42 kc)
  clear hal
  have L6 := (N.out.cell 0).trans G0.out
  have L7 := (N.out.cell 1).trans G1.out
  have L8 := (N.out.cell 18).trans G18.out
  have L9 : (loadVar 26 ⟨w.heap.size, 1, none⟩).run Try.prog (w.alloc (.cells kc 42)) = .ok (.agg S) (w.alloc (.cells kc 42)) := by have h := run_part_load (P := Try.prog) 26 1 S.toList _ N.out KP1.out Try.underlying26 rfl IS.out; rwa [Array.toArray_toList] at h
  replace L9 := lh L9
  go_wp2_with (((with_reducible refine wpList_load_want (op := ⟨some 20, .load 26 (.tmp 19), _, _, _, _⟩) ?wg9 26 (.tmp 19) ?wo9 ⟨w.heap.size, 1, none⟩ ?wx9 (.agg S) L9.out ?_); (case wg9 => rfl); (case wo9 => rfl); (case wx9 => rfl)))
  clear L6 L7 L8 L9
  have hzV1 : Hid ((w.alloc (.cells kc 42)).heap.size = w.heap.size + 1) := by show _ = _; simp only [World.size_alloc]
  generalize (w.alloc (.cells kc 42)) = V1 at *
  refine (CV1.out V1).mono ?_
  rintro e V2 ⟨rfl, hy⟩
  replace K := lh (K.out.trans (hy.mono K.out.size))
  replace N := lh (N.out.below hy N.out.lt)
  clear hy
  go_wp2
  go_ret
  exact ⟨rfl, K.out⟩
set_option maxRecDepth 100000 in
set_option maxHeartbeats 2000000 in
theorem kvalid_6y (k : Fl) (hk : k.Fit) (hp : k.p = 6) (hq : (k.sv == k.dv) = true) (hS : vldA k.sv k.S = true) (w : World) :
    Calls Try.prog 49 #[.agg k.cs] w fun e w' => e = .returned (.bool (vldA k.dv k.D)) ∧ Below w.heap.size w w' := by
  have K := lh (Below.refl w.heap.size w)
  have CV1 := lh (fun W => valid_any k.sv k.S hk.lS hk.bS W)
  have CV2 := lh (fun W => valid_any k.dv k.D hk.lD hk.bD W)
  obtain ⟨a0, a1, a18, a35, a36⟩ := fl_get k hk
  have G0 := lh a0
  have G1 := lh a1
  have G18 := lh a18
  have G35 := lh a35
  have G36 := lh a36
  have KP1 := lh (fl_src k)
  have KP2 := lh (fl_dst k hk)
  have IS := lh (fl_is k hk)
  have ID := lh (fl_id k hk)
  have IK := lh (fl_ik k hk)
  clear a0 a1 a18 a35 a36
  have e6 : ((k.p : Int) != 6) = false := by rw [hp]; rfl
  have f6 : ((k.p : Int) == 6) = true := by rw [hp]; rfl
  clear hp
  unfold adr at CV1 CV2
  generalize vldA k.sv k.S = vS at *
  generalize vldA k.dv k.D = vD at *
  generalize k.cs = kc at *
  generalize cellsA k.sv k.S = S at *
  generalize cellsA k.dv k.D = D at *
  generalize k.p = p at *
  generalize k.sv = sv at *
  generalize k.dv = dv at *
  generalize k.sp = sp at *
  generalize k.dp = dp at *
  clear hk
  subst hS
  go_enter Try.func49, Try.ntmps49
  have hal := (Below.refl w.heap.size w).alloc (Nat.le_refl _) (.cells kc 42)
  replace K := lh (K.out.trans (hal.mono K.out.size))
  have N := lh (Blk.new w 42 kc)
  clear hal
  have L10 := (N.out.cell 0).trans G0.out
  have L11 := (N.out.cell 1).trans G1.out
  have L12 := (N.out.cell 18).trans G18.out
  have L13 : (loadVar 26 ⟨w.heap.size, 1, none⟩).run Try.prog (w.alloc (.cells kc 42)) = .ok (.agg S) (w.alloc (.cells kc 42)) := by have h := run_part_load (P := Try.prog) 26 1 S.toList _ N.out KP1.out Try.underlying26 rfl IS.out; rwa [Array.toArray_toList] at h
  replace L13 := lh L13
  go_wp2_with (((with_reducible refine wpList_load_want (op := ⟨some 20, .load 26 (.tmp 19), _, _, _, _⟩) ?wg13 26 (.tmp 19) ?wo13 ⟨w.heap.size, 1, none⟩ ?wx13 (.agg S) L13.out ?_); (case wg13 => rfl); (case wo13 => rfl); (case wx13 => rfl)))
  clear L10 L11 L12 L13
  have hzV1 : Hid ((w.alloc (.cells kc 42)).heap.size = w.heap.size + 1) := by show _ = _; simp only [World.size_alloc]
  generalize (w.alloc (.cells kc 42)) = V1 at *
  refine (CV1.out V1).mono ?_
  rintro e V2 ⟨rfl, hy⟩
  replace K := lh (K.out.trans (hy.mono K.out.size))
  replace N := lh (N.out.below hy N.out.lt)
  clear hy
  have L14 : (loadVar 26 ⟨w.heap.size, 18, none⟩).run Try.prog V2 = .ok (.agg D) V2 := by have h := run_part_load (P := Try.prog) 26 18 D.toList _ N.out KP2.out Try.underlying26 rfl ID.out; rwa [Array.toArray_toList] at h
  replace L14 := lh L14
  go_wp2_with (((with_reducible refine wpList_load_want (op := ⟨some 25, .load 26 (.tmp 24), _, _, _, _⟩) ?wg14 26 (.tmp 24) ?wo14 ⟨w.heap.size, 18, none⟩ ?wx14 (.agg D) L14.out ?_); (case wg14 => rfl); (case wo14 => rfl); (case wx14 => rfl)))
  clear L14
  refine (CV2.out V2).mono ?_
  rintro e V3 ⟨rfl, hy⟩
  replace K := lh (K.out.trans (hy.mono K.out.size))
  replace N := lh (N.out.below hy N.out.lt)
  clear hy
  go_wp2
  go_ret
  exact ⟨rfl, K.out⟩
set_option maxRecDepth 100000 in
set_option maxHeartbeats 2000000 in
theorem kvalid_17k (k : Fl) (hk : k.Fit) (hp : k.p = 17) (hq : (k.sv == k.dv) = false) (w : World) :
    Calls Try.prog 49 #[.agg k.cs] w fun e w' => e = .returned (.bool false) ∧ Below w.heap.size w w' := by
  have K := lh (Below.refl w.heap.size w)
  have CV1 := lh (fun W => valid_any k.sv k.S hk.lS hk.bS W)
  have CV2 := lh (fun W => valid_any k.dv k.D hk.lD hk.bD W)
  obtain ⟨a0, a1, a18, a35, a36⟩ := fl_get k hk
  have G0 := lh a0
  have G1 := lh a1
  have G18 := lh a18
  have G35 := lh a35
  have G36 := lh a36
  have KP1 := lh (fl_src k)
  have KP2 := lh (fl_dst k hk)
  have IS := lh (fl_is k hk)
  have ID := lh (fl_id k hk)
  have IK := lh (fl_ik k hk)
  clear a0 a1 a18 a35 a36
  have e6 : ((k.p : Int) != 6) = true := by rw [hp]; rfl
  have f6 : ((k.p : Int) == 6) = false := by rw [hp]; rfl
  have e17 : ((k.p : Int) != 17) = false := by rw [hp]; rfl
  have f17 : ((k.p : Int) == 17) = true := by rw [hp]; rfl
  clear hp
  unfold adr at CV1 CV2
  generalize vldA k.sv k.S = vS at *
  generalize vldA k.dv k.D = vD at *
  generalize k.cs = kc at *
  generalize cellsA k.sv k.S = S at *
  generalize cellsA k.dv k.D = D at *
  generalize k.p = p at *
  generalize k.sv = sv at *
  generalize k.dv = dv at *
  generalize k.sp = sp at *
  generalize k.dp = dp at *
  clear hk
  go_enter Try.func49, Try.ntmps49
  have hal := (Below.refl w.heap.size w).alloc (Nat.le_refl _) (.cells kc 42)
  replace K := lh (K.out.trans (hal.mono K.out.size))
  have N := lh (Blk.new w 42 kc)
  clear hal
  have L15 := (N.out.cell 0).trans G0.out
  have L16 := (N.out.cell 0).trans G0.out
  have L17 := (N.out.cell 1).trans G1.out
  have L18 := (N.out.cell 18).trans G18.out
  go_wp2
  go_ret
  exact ⟨rfl, K.out⟩
set_option maxRecDepth 100000 in
set_option maxHeartbeats 2000000 in
theorem kvalid_17s (k : Fl) (hk : k.Fit) (hp : k.p = 17) (hq : (k.sv == k.dv) = true) (hS : vldA k.sv k.S = false) (w : World) :
    Calls Try.prog 49 #[.agg k.cs] w fun e w' => e = .returned (.bool false) ∧ Below w.heap.size w w' := by
  have K := lh (Below.refl w.heap.size w)
  have CV1 := lh (fun W => valid_any k.sv k.S hk.lS hk.bS W)
  have CV2 := lh (fun W => valid_any k.dv k.D hk.lD hk.bD W)
  obtain ⟨a0, a1, a18, a35, a36⟩ := fl_get k hk
  have G0 := lh a0
  have G1 := lh a1
  have G18 := lh a18
  have G35 := lh a35
  have G36 := lh a36
  have KP1 := lh (fl_src k)
  have KP2 := lh (fl_dst k hk)
  have IS := lh (fl_is k hk)
  have ID := lh (fl_id k hk)
  have IK := lh (fl_ik k hk)
  clear a0 a1 a18 a35 a36
  have e6 : ((k.p : Int) != 6) = true := by rw [hp]; rfl
  have f6 : ((k.p : Int) == 6) = false := by rw [hp]; rfl
  have e17 : ((k.p : Int) != 17) = false := by rw [hp]; rfl
  have f17 : ((k.p : Int) == 17) = true := by rw [hp]; rfl
  clear hp
  unfold adr at CV1 CV2
  generalize vldA k.sv k.S = vS at *
  generalize vldA k.dv k.D = vD at *
  generalize k.cs = kc at *
  generalize cellsA k.sv k.S = S at *
  generalize cellsA k.dv k.D = D at *
  generalize k.p = p at *
  generalize k.sv = sv at *
  generalize k.dv = dv at *
  generalize k.sp = sp at *
  generalize k.dp = dp at *
  clear hk
  subst hS
  go_enter Try.func49, Try.ntmps49
  have hal := (Below.refl w.heap.size w).alloc (Nat.le_refl _) (.cells kc 42)
  replace K := lh (K.out.trans (hal.mono K.out.size))
  have N := lh (Blk.new w 42 kc)
  clear hal
  have L19 := (N.out.cell 0).trans G0.out
  have L20 := (N.out.cell 0).trans G0.out
  have L21 := (N.out.cell 1).trans G1.out
  have L22 := (N.out.cell 18).trans G18.out
  have L23 : (loadVar 26 ⟨w.heap.size, 1, none⟩).run Try.prog (w.alloc (.cells kc 42)) = .ok (.agg S) (w.alloc (.cells kc 42)) := by have h := run_part_load (P := Try.prog) 26 1 S.toList _ N.out KP1.out Try.underlying26 rfl IS.out; rwa [Array.toArray_toList] at h
  replace L23 := lh L23
  go_wp2_with (((with_reducible refine wpList_load_want (op := ⟨some 20, .load 26 (.tmp 19), _, _, _, _⟩) ?wg23 26 (.tmp 19) ?wo23 ⟨w.heap.size, 1, none⟩ ?wx23 (.agg S) L23.out ?_); (case wg23 => rfl); (case wo23 => rfl); (case wx23 => rfl)))
  clear L19 L20 L21 L22 L23
  have hzV1 : Hid ((w.alloc (.cells kc 42)).heap.size = w.heap.size + 1) := by show _ = _; simp only [World.size_alloc]
  generalize (w.alloc (.cells kc 42)) = V1 at *
  refine (CV1.out V1).mono ?_
  rintro e V2 ⟨rfl, hy⟩
  replace K := lh (K.out.trans (hy.mono K.out.size))
  replace N := lh (N.out.below hy N.out.lt)
  clear hy
  go_wp2
  go_ret
  exact ⟨rfl, K.out⟩
set_option maxRecDepth 100000 in
set_option maxHeartbeats 2000000 in
theorem kvalid_17y (k : Fl) (hk : k.Fit) (hp : k.p = 17) (hq : (k.sv == k.dv) = true) (hS : vldA k.sv k.S = true) (w : World) :
    Calls Try.prog 49 #[.agg k.cs] w fun e w' => e = .returned (.bool (vldA k.dv k.D)) ∧ Below w.heap.size w w' := by
  have K := lh (Below.refl w.heap.size w)
  have CV1 := lh (fun W => valid_any k.sv k.S hk.lS hk.bS W)
  have CV2 := lh (fun W => valid_any k.dv k.D hk.lD hk.bD W)
  obtain ⟨a0, a1, a18, a35, a36⟩ := fl_get k hk
  have G0 := lh a0
  have G1 := lh a1
  have G18 := lh a18
  have G35 := lh a35
  have G36 := lh a36
  have KP1 := lh (fl_src k)
  have KP2 := lh (fl_dst k hk)
  have IS := lh (fl_is k hk)
  have ID := lh (fl_id k hk)
  have IK := lh (fl_ik k hk)
  clear a0 a1 a18 a35 a36
  have e6 : ((k.p : Int) != 6) = true := by rw [hp]; rfl
  have f6 : ((k.p : Int) == 6) = false := by rw [hp]; rfl
  have e17 : ((k.p : Int) != 17) = false := by rw [hp]; rfl
  have f17 : ((k.p : Int) == 17) = true := by rw [hp]; rfl
  clear hp
  unfold adr at CV1 CV2
  generalize vldA k.sv k.S = vS at *
  generalize vldA k.dv k.D = vD at *
  generalize k.cs = kc at *
  generalize cellsA k.sv k.S = S at *
  generalize cellsA k.dv k.D = D at *
  generalize k.p = p at *
  generalize k.sv = sv at *
  generalize k.dv = dv at *
  generalize k.sp = sp at *
  generalize k.dp = dp at *
  clear hk
  subst hS
  go_enter Try.func49, Try.ntmps49
  have hal := (Below.refl w.heap.size w).alloc (Nat.le_refl _) (.cells kc 42)
  replace K := lh (K.out.trans (hal.mono K.out.size))
  have N := lh (Blk.new w 42 kc)
  clear hal
  have L24 := (N.out.cell 0).trans G0.out
  have L25 := (N.out.cell 0).trans G0.out
  have L26 := (N.out.cell 1).trans G1.out
  have L27 := (N.out.cell 18).trans G18.out
  have L28 : (loadVar 26 ⟨w.heap.size, 1, none⟩).run Try.prog (w.alloc (.cells kc 42)) = .ok (.agg S) (w.alloc (.cells kc 42)) := by have h := run_part_load (P := Try.prog) 26 1 S.toList _ N.out KP1.out Try.underlying26 rfl IS.out; rwa [Array.toArray_toList] at h
  replace L28 := lh L28
  go_wp2_with (((with_reducible refine wpList_load_want (op := ⟨some 20, .load 26 (.tmp 19), _, _, _, _⟩) ?wg28 26 (.tmp 19) ?wo28 ⟨w.heap.size, 1, none⟩ ?wx28 (.agg S) L28.out ?_); (case wg28 => rfl); (case wo28 => rfl); (case wx28 => rfl)))
  clear L24 L25 L26 L27 L28
  have hzV1 : Hid ((w.alloc (.cells kc 42)).heap.size = w.heap.size + 1) := by show _ = _; simp only [World.size_alloc]
  generalize (w.alloc (.cells kc 42)) = V1 at *
  refine (CV1.out V1).mono ?_
  rintro e V2 ⟨rfl, hy⟩
  replace K := lh (K.out.trans (hy.mono K.out.size))
  replace N := lh (N.out.below hy N.out.lt)
  clear hy
  have L29 : (loadVar 26 ⟨w.heap.size, 18, none⟩).run Try.prog V2 = .ok (.agg D) V2 := by have h := run_part_load (P := Try.prog) 26 18 D.toList _ N.out KP2.out Try.underlying26 rfl ID.out; rwa [Array.toArray_toList] at h
  replace L29 := lh L29
  go_wp2_with (((with_reducible refine wpList_load_want (op := ⟨some 25, .load 26 (.tmp 24), _, _, _, _⟩) ?wg29 26 (.tmp 24) ?wo29 ⟨w.heap.size, 18, none⟩ ?wx29 (.agg D) L29.out ?_); (case wg29 => rfl); (case wo29 => rfl); (case wx29 => rfl)))
  clear L29
  refine (CV2.out V2).mono ?_
  rintro e V3 ⟨rfl, hy⟩
  replace K := lh (K.out.trans (hy.mono K.out.size))
  replace N := lh (N.out.below hy N.out.lt)
  clear hy
  go_wp2
  go_ret
  exact ⟨rfl, K.out⟩
set_option maxRecDepth 100000 in
set_option maxHeartbeats 2000000 in
theorem rvalid_0 (k : Fl) (hk : k.Fit) (hp : k.p ≠ 6 ∧ k.p ≠ 17) (w : World) :
    Calls Try.prog 38 #[.agg k.cs] w fun e w' => e = .returned (.bool false) ∧ Below w.heap.size w w' := by
  have K := lh (Below.refl w.heap.size w)
  have CV1 := lh (fun W => ref_adr k.sv k.S hk.lS W)
  have CV2 := lh (fun W => ref_adr k.dv k.D hk.lD W)
  obtain ⟨a0, a1, a18, a35, a36⟩ := fl_get k hk
  have G0 := lh a0
  have G1 := lh a1
  have G18 := lh a18
  have G35 := lh a35
  have G36 := lh a36
  have KP1 := lh (fl_src k)
  have KP2 := lh (fl_dst k hk)
  have IS := lh (fl_is k hk)
  have ID := lh (fl_id k hk)
  have IK := lh (fl_ik k hk)
  clear a0 a1 a18 a35 a36
  have e6 : ((k.p : Int) != 6) = true := by rw [bne_iff_ne]; omega
  have f6 : ((k.p : Int) == 6) = false := by rw [beq_eq_false_iff_ne]; omega
  have e17 : ((k.p : Int) != 17) = true := by rw [bne_iff_ne]; omega
  have f17 : ((k.p : Int) == 17) = false := by rw [beq_eq_false_iff_ne]; omega
  clear hp
  unfold adr at CV1 CV2
  generalize vldA k.sv k.S = vS at *
  generalize vldA k.dv k.D = vD at *
  generalize k.cs = kc at *
  generalize cellsA k.sv k.S = S at *
  generalize cellsA k.dv k.D = D at *
  generalize k.p = p at *
  generalize k.sv = sv at *
  generalize k.dv = dv at *
  generalize k.sp = sp at *
  generalize k.dp = dp at *
  clear hk
  go_enter Try.func38, Try.ntmps38
  have hal := (Below.refl w.heap.size w).alloc (Nat.le_refl _) (.cells kc 42)
  replace K := lh (K.out.trans (hal.mono K.out.size))
  have N := lh (Blk.new w 42 kc)
  clear hal
  have L30 := (N.out.cell 0).trans G0.out
  have L31 := (N.out.cell 0).trans G0.out
  go_wp2
  go_ret
  exact ⟨rfl, K.out⟩
set_option maxRecDepth 100000 in
set_option maxHeartbeats 2000000 in
theorem rvalid_6s (k : Fl) (hk : k.Fit) (hp : k.p = 6) (hS : vldA k.sv k.S = false) (w : World) :
    Calls Try.prog 38 #[.agg k.cs] w fun e w' => e = .returned (.bool false) ∧ Below w.heap.size w w' := by
  have K := lh (Below.refl w.heap.size w)
  have CV1 := lh (fun W => ref_adr k.sv k.S hk.lS W)
  have CV2 := lh (fun W => ref_adr k.dv k.D hk.lD W)
  obtain ⟨a0, a1, a18, a35, a36⟩ := fl_get k hk
  have G0 := lh a0
  have G1 := lh a1
  have G18 := lh a18
  have G35 := lh a35
  have G36 := lh a36
  have KP1 := lh (fl_src k)
  have KP2 := lh (fl_dst k hk)
  have IS := lh (fl_is k hk)
  have ID := lh (fl_id k hk)
  have IK := lh (fl_ik k hk)
  clear a0 a1 a18 a35 a36
  have e6 : ((k.p : Int) != 6) = false := by rw [hp]; rfl
  have f6 : ((k.p : Int) == 6) = true := by rw [hp]; rfl
  clear hp
  unfold adr at CV1 CV2
  generalize vldA k.sv k.S = vS at *
  generalize vldA k.dv k.D = vD at *
  generalize k.cs = kc at *
  generalize cellsA k.sv k.S = S at *
  generalize cellsA k.dv k.D = D at *
  generalize k.p = p at *
  generalize k.sv = sv at *
  generalize k.dv = dv at *
  generalize k.sp = sp at *
  generalize k.dp = dp at *
  clear hk
  subst hS
  go_enter Try.func38, Try.ntmps38
  have hal := (Below.refl w.heap.size w).alloc (Nat.le_refl _) (.cells kc 42)
  replace K := lh (K.out.trans (hal.mono K.out.size))
  have N := lh (Blk.new w 42 kc)
  clear hal
  have L32 := (N.out.cell 0).trans G0.out
  have L33 : (loadVar 26 ⟨w.heap.size, 1, none⟩).run Try.prog (w.alloc (.cells kc 42)) = .ok (.agg S) (w.alloc (.cells kc 42)) := by have h := run_part_load (P := Try.prog) 26 1 S.toList _ N.out KP1.out Try.underlying26 rfl IS.out; rwa [Array.toArray_toList] at h
  replace L33 := lh L33
  go_wp2_with (((with_reducible refine wpList_load_want (op := ⟨some 13, .load 26 (.tmp 12), _, _, _, _⟩) ?wg33 26 (.tmp 12) ?wo33 ⟨w.heap.size, 1, none⟩ ?wx33 (.agg S) L33.out ?_); (case wg33 => rfl); (case wo33 => rfl); (case wx33 => rfl)))
  clear L32 L33
  have hzV1 : Hid ((w.alloc (.cells kc 42)).heap.size = w.heap.size + 1) := by show _ = _; simp only [World.size_alloc]
  generalize (w.alloc (.cells kc 42)) = V1 at *
  refine (CV1.out V1).mono ?_
  rintro e V2 ⟨rfl, hy⟩
  replace K := lh (K.out.trans (hy.mono K.out.size))
  replace N := lh (N.out.below hy N.out.lt)
  clear hy
  go_wp2
  go_ret
  exact ⟨rfl, K.out⟩
set_option maxRecDepth 100000 in
set_option maxHeartbeats 2000000 in
theorem rvalid_6d (k : Fl) (hk : k.Fit) (hp : k.p = 6) (hS : vldA k.sv k.S = true) (hD : vldA k.dv k.D = false) (w : World) :
    Calls Try.prog 38 #[.agg k.cs] w fun e w' => e = .returned (.bool false) ∧ Below w.heap.size w w' := by
  have K := lh (Below.refl w.heap.size w)
  have CV1 := lh (fun W => ref_adr k.sv k.S hk.lS W)
  have CV2 := lh (fun W => ref_adr k.dv k.D hk.lD W)
  obtain ⟨a0, a1, a18, a35, a36⟩ := fl_get k hk
  have G0 := lh a0
  have G1 := lh a1
  have G18 := lh a18
  have G35 := lh a35
  have G36 := lh a36
  have KP1 := lh (fl_src k)
  have KP2 := lh (fl_dst k hk)
  have IS := lh (fl_is k hk)
  have ID := lh (fl_id k hk)
  have IK := lh (fl_ik k hk)
  clear a0 a1 a18 a35 a36
  have e6 : ((k.p : Int) != 6) = false := by rw [hp]; rfl
  have f6 : ((k.p : Int) == 6) = true := by rw [hp]; rfl
  clear hp
  unfold adr at CV1 CV2
  generalize vldA k.sv k.S = vS at *
  generalize vldA k.dv k.D = vD at *
  generalize k.cs = kc at *
  generalize cellsA k.sv k.S = S at *
  generalize cellsA k.dv k.D = D at *
  generalize k.p = p at *
  generalize k.sv = sv at *
  generalize k.dv = dv at *
  generalize k.sp = sp at *
  generalize k.dp = dp at *
  clear hk
  subst hS
  subst hD
  go_enter Try.func38, Try.ntmps38
  have hal := (Below.refl w.heap.size w).alloc (Nat.le_refl _) (.cells kc 42)
  replace K := lh (K.out.trans (hal.mono K.out.size))
  have N := lh (Blk.new w 42 kc)
  clear hal
  have L34 := (N.out.cell 0).trans G0.out
  have L35 : (loadVar 26 ⟨w.heap.size, 1, none⟩).run Try.prog (w.alloc (.cells kc 42)) = .ok (.agg S) (w.alloc (.cells kc 42)) := by have h := run_part_load (P := Try.prog) 26 1 S.toList _ N.out KP1.out Try.underlying26 rfl IS.out; rwa [Array.toArray_toList] at h
  replace L35 := lh L35
  go_wp2_with (((with_reducible refine wpList_load_want (op := ⟨some 13, .load 26 (.tmp 12), _, _, _, _⟩) ?wg35 26 (.tmp 12) ?wo35 ⟨w.heap.size, 1, none⟩ ?wx35 (.agg S) L35.out ?_); (case wg35 => rfl); (case wo35 => rfl); (case wx35 => rfl)))
  clear L34 L35
  have hzV1 : Hid ((w.alloc (.cells kc 42)).heap.size = w.heap.size + 1) := by show _ = _; simp only [World.size_alloc]
  generalize (w.alloc (.cells kc 42)) = V1 at *
  refine (CV1.out V1).mono ?_
  rintro e V2 ⟨rfl, hy⟩
  replace K := lh (K.out.trans (hy.mono K.out.size))
  replace N := lh (N.out.below hy N.out.lt)
  clear hy
  have L36 : (loadVar 26 ⟨w.heap.size, 18, none⟩).run Try.prog V2 = .ok (.agg D) V2 := by have h := run_part_load (P := Try.prog) 26 18 D.toList _ N.out KP2.out Try.underlying26 rfl ID.out; rwa [Array.toArray_toList] at h
  replace L36 := lh L36
  go_wp2_with (((with_reducible refine wpList_load_want (op := ⟨some 18, .load 26 (.tmp 17), _, _, _, _⟩) ?wg36 26 (.tmp 17) ?wo36 ⟨w.heap.size, 18, none⟩ ?wx36 (.agg D) L36.out ?_); (case wg36 => rfl); (case wo36 => rfl); (case wx36 => rfl)))
  clear L36
  refine (CV2.out V2).mono ?_
  rintro e V3 ⟨rfl, hy⟩
  replace K := lh (K.out.trans (hy.mono K.out.size))
  replace N := lh (N.out.below hy N.out.lt)
  clear hy
  go_wp2
  go_ret
  exact ⟨rfl, K.out⟩
set_option maxRecDepth 100000 in
set_option maxHeartbeats 2000000 in
theorem rvalid_6y (k : Fl) (hk : k.Fit) (hp : k.p = 6) (hS : vldA k.sv k.S = true) (hD : vldA k.dv k.D = true) (w : World) :
    Calls Try.prog 38 #[.agg k.cs] w fun e w' => e = .returned (.bool (k.sv == k.dv)) ∧ Below w.heap.size w w' := by
  have K := lh (Below.refl w.heap.size w)
  have CV1 := lh (fun W => ref_adr k.sv k.S hk.lS W)
  have CV2 := lh (fun W => ref_adr k.dv k.D hk.lD W)
  obtain ⟨a0, a1, a18, a35, a36⟩ := fl_get k hk
  have G0 := lh a0
  have G1 := lh a1
  have G18 := lh a18
  have G35 := lh a35
  have G36 := lh a36
  have KP1 := lh (fl_src k)
  have KP2 := lh (fl_dst k hk)
  have IS := lh (fl_is k hk)
  have ID := lh (fl_id k hk)
  have IK := lh (fl_ik k hk)
  clear a0 a1 a18 a35 a36
  have e6 : ((k.p : Int) != 6) = false := by rw [hp]; rfl
  have f6 : ((k.p : Int) == 6) = true := by rw [hp]; rfl
  clear hp
  unfold adr at CV1 CV2
  generalize vldA k.sv k.S = vS at *
  generalize vldA k.dv k.D = vD at *
  generalize k.cs = kc at *
  generalize cellsA k.sv k.S = S at *
  generalize cellsA k.dv k.D = D at *
  generalize k.p = p at *
  generalize k.sv = sv at *
  generalize k.dv = dv at *
  generalize k.sp = sp at *
  generalize k.dp = dp at *
  clear hk
  subst hS
  subst hD
  go_enter Try.func38, Try.ntmps38
  have hal := (Below.refl w.heap.size w).alloc (Nat.le_refl _) (.cells kc 42)
  replace K := lh (K.out.trans (hal.mono K.out.size))
  have N := lh (Blk.new w 42 kc)
  clear hal
  have L37 := (N.out.cell 0).trans G0.out
  have L38 : (loadVar 26 ⟨w.heap.size, 1, none⟩).run Try.prog (w.alloc (.cells kc 42)) = .ok (.agg S) (w.alloc (.cells kc 42)) := by have h := run_part_load (P := Try.prog) 26 1 S.toList _ N.out KP1.out Try.underlying26 rfl IS.out; rwa [Array.toArray_toList] at h
  replace L38 := lh L38
  go_wp2_with (((with_reducible refine wpList_load_want (op := ⟨some 13, .load 26 (.tmp 12), _, _, _, _⟩) ?wg38 26 (.tmp 12) ?wo38 ⟨w.heap.size, 1, none⟩ ?wx38 (.agg S) L38.out ?_); (case wg38 => rfl); (case wo38 => rfl); (case wx38 => rfl)))
  clear L37 L38
  have hzV1 : Hid ((w.alloc (.cells kc 42)).heap.size = w.heap.size + 1) := by show _ = _; simp only [World.size_alloc]
  generalize (w.alloc (.cells kc 42)) = V1 at *
  refine (CV1.out V1).mono ?_
  rintro e V2 ⟨rfl, hy⟩
  replace K := lh (K.out.trans (hy.mono K.out.size))
  replace N := lh (N.out.below hy N.out.lt)
  clear hy
  have L39 : (loadVar 26 ⟨w.heap.size, 18, none⟩).run Try.prog V2 = .ok (.agg D) V2 := by have h := run_part_load (P := Try.prog) 26 18 D.toList _ N.out KP2.out Try.underlying26 rfl ID.out; rwa [Array.toArray_toList] at h
  replace L39 := lh L39
  go_wp2_with (((with_reducible refine wpList_load_want (op := ⟨some 18, .load 26 (.tmp 17), _, _, _, _⟩) ?wg39 26 (.tmp 17) ?wo39 ⟨w.heap.size, 18, none⟩ ?wx39 (.agg D) L39.out ?_); (case wg39 => rfl); (case wo39 => rfl); (case wx39 => rfl)))
  clear L39
  refine (CV2.out V2).mono ?_
  rintro e V3 ⟨rfl, hy⟩
  replace K := lh (K.out.trans (hy.mono K.out.size))
  replace N := lh (N.out.below hy N.out.lt)
  clear hy
  have L40 := (N.out.cell 1).trans G1.out
  have L41 := (N.out.cell 18).trans G18.out
  go_wp2
  go_ret
  exact ⟨rfl, K.out⟩
set_option maxRecDepth 100000 in
set_option maxHeartbeats 2000000 in
theorem rvalid_17s (k : Fl) (hk : k.Fit) (hp : k.p = 17) (hS : vldA k.sv k.S = false) (w : World) :
    Calls Try.prog 38 #[.agg k.cs] w fun e w' => e = .returned (.bool false) ∧ Below w.heap.size w w' := by
  have K := lh (Below.refl w.heap.size w)
  have CV1 := lh (fun W => ref_adr k.sv k.S hk.lS W)
  have CV2 := lh (fun W => ref_adr k.dv k.D hk.lD W)
  obtain ⟨a0, a1, a18, a35, a36⟩ := fl_get k hk
  have G0 := lh a0
  have G1 := lh a1
  have G18 := lh a18
  have G35 := lh a35
  have G36 := lh a36
  have KP1 := lh (fl_src k)
  have KP2 := lh (fl_dst k hk)
  have IS := lh (fl_is k hk)
  have ID := lh (fl_id k hk)
  have IK := lh (fl_ik k hk)
  clear a0 a1 a18 a35 a36
  have e6 : ((k.p : Int) != 6) = true := by rw [hp]; rfl
  have f6 : ((k.p : Int) == 6) = false := by rw [hp]; rfl
  have e17 : ((k.p : Int) != 17) = false := by rw [hp]; rfl
  have f17 : ((k.p : Int) == 17) = true := by rw [hp]; rfl
  clear hp
  unfold adr at CV1 CV2
  generalize vldA k.sv k.S = vS at *
  generalize vldA k.dv k.D = vD at *
  generalize k.cs = kc at *
  generalize cellsA k.sv k.S = S at *
  generalize cellsA k.dv k.D = D at *
  generalize k.p = p at *
  generalize k.sv = sv at *
  generalize k.dv = dv at *
  generalize k.sp = sp at *
  generalize k.dp = dp at *
  clear hk
  subst hS
  go_enter Try.func38, Try.ntmps38
  have hal := (Below.refl w.heap.size w).alloc (Nat.le_refl _) (.cells kc 42)
  replace K := lh (K.out.trans (hal.mono K.out.size))
  have N := lh (Blk.new w 42 kc)
  clear hal
  have L42 := (N.out.cell 0).trans G0.out
  have L43 := (N.out.cell 0).trans G0.out
  have L44 : (loadVar 26 ⟨w.heap.size, 1, none⟩).run Try.prog (w.alloc (.cells kc 42)) = .ok (.agg S) (w.alloc (.cells kc 42)) := by have h := run_part_load (P := Try.prog) 26 1 S.toList _ N.out KP1.out Try.underlying26 rfl IS.out; rwa [Array.toArray_toList] at h
  replace L44 := lh L44
  go_wp2_with (((with_reducible refine wpList_load_want (op := ⟨some 13, .load 26 (.tmp 12), _, _, _, _⟩) ?wg44 26 (.tmp 12) ?wo44 ⟨w.heap.size, 1, none⟩ ?wx44 (.agg S) L44.out ?_); (case wg44 => rfl); (case wo44 => rfl); (case wx44 => rfl)))
  clear L42 L43 L44
  have hzV1 : Hid ((w.alloc (.cells kc 42)).heap.size = w.heap.size + 1) := by show _ = _; simp only [World.size_alloc]
  generalize (w.alloc (.cells kc 42)) = V1 at *
  refine (CV1.out V1).mono ?_
  rintro e V2 ⟨rfl, hy⟩
  replace K := lh (K.out.trans (hy.mono K.out.size))
  replace N := lh (N.out.below hy N.out.lt)
  clear hy
  go_wp2
  go_ret
  exact ⟨rfl, K.out⟩
set_option maxRecDepth 100000 in
set_option maxHeartbeats 2000000 in
theorem rvalid_17d (k : Fl) (hk : k.Fit) (hp : k.p = 17) (hS : vldA k.sv k.S = true) (hD : vldA k.dv k.D = false) (w : World) :
    Calls Try.prog 38 #[.agg k.cs] w fun e w' => e = .returned (.bool false) ∧ Below w.heap.size w w' := by
  have K := lh (Below.refl w.heap.size w)
  have CV1 := lh (fun W => ref_adr k.sv k.S hk.lS W)
  have CV2 := lh (fun W => ref_adr k.dv k.D hk.lD W)
  obtain ⟨a0, a1, a18, a35, a36⟩ := fl_get k hk
  have G0 := lh a0
  have G1 := lh a1
  have G18 := lh a18
  have G35 := lh a35
  have G36 := lh a36
  have KP1 := lh (fl_src k)
  have KP2 := lh (fl_dst k hk)
  have IS := lh (fl_is k hk)
  have ID := lh (fl_id k hk)
  have IK := lh (fl_ik k hk)
  clear a0 a1 a18 a35 a36
  have e6 : ((k.p : Int) != 6) = true := by rw [hp]; rfl
  have f6 : ((k.p : Int) == 6) = false := by rw [hp]; rfl
  have e17 : ((k.p : Int) != 17) = false := by rw [hp]; rfl
  have f17 : ((k.p : Int) == 17) = true := by rw [hp]; rfl
  clear hp
  unfold adr at CV1 CV2
  generalize vldA k.sv k.S = vS at *
  generalize vldA k.dv k.D = vD at *
  generalize k.cs = kc at *
  generalize cellsA k.sv k.S = S at *
  generalize cellsA k.dv k.D = D at *
  generalize k.p = p at *
  generalize k.sv = sv at *
  generalize k.dv = dv at *
  generalize k.sp = sp at *
  generalize k.dp = dp at *
  clear hk
  subst hS
  subst hD
  go_enter Try.func38, Try.ntmps38
  have hal := (Below.refl w.heap.size w).alloc (Nat.le_refl _) (.cells kc 42)
  replace K := lh (K.out.trans (hal.mono K.out.size))
  have N := lh (Blk.new w 42 kc)
  clear hal
  have L45 := (N.out.cell 0).trans G0.out
  have L46 := (N.out.cell 0).trans G0.out
  have L47 : (loadVar 26 ⟨w.heap.size, 1, none⟩).run Try.prog (w.alloc (.cells kc 42)) = .ok (.agg S) (w.alloc (.cells kc 42)) := by have h := run_part_load (P := Try.prog) 26 1 S.toList _ N.out KP1.out Try.underlying26 rfl IS.out; rwa [Array.toArray_toList] at h
  replace L47 := lh L47
  go_wp2_with (((with_reducible refine wpList_load_want (op := ⟨some 13, .load 26 (.tmp 12), _, _, _, _⟩) ?wg47 26 (.tmp 12) ?wo47 ⟨w.heap.size, 1, none⟩ ?wx47 (.agg S) L47.out ?_); (case wg47 => rfl); (case wo47 => rfl); (case wx47 => rfl)))
  clear L45 L46 L47
  have hzV1 : Hid ((w.alloc (.cells kc 42)).heap.size = w.heap.size + 1) := by show _ = _; simp only [World.size_alloc]
  generalize (w.alloc (.cells kc 42)) = V1 at *
  refine (CV1.out V1).mono ?_
  rintro e V2 ⟨rfl, hy⟩
  replace K := lh (K.out.trans (hy.mono K.out.size))
  replace N := lh (N.out.below hy N.out.lt)
  clear hy
  have L48 : (loadVar 26 ⟨w.heap.size, 18, none⟩).run Try.prog V2 = .ok (.agg D) V2 := by have h := run_part_load (P := Try.prog) 26 18 D.toList _ N.out KP2.out Try.underlying26 rfl ID.out; rwa [Array.toArray_toList] at h
  replace L48 := lh L48
  go_wp2_with (((with_reducible refine wpList_load_want (op := ⟨some 18, .load 26 (.tmp 17), _, _, _, _⟩) ?wg48 26 (.tmp 17) ?wo48 ⟨w.heap.size, 18, none⟩ ?wx48 (.agg D) L48.out ?_); (case wg48 => rfl); (case wo48 => rfl); (case wx48 => rfl)))
  clear L48
  refine (CV2.out V2).mono ?_
  rintro e V3 ⟨rfl, hy⟩
  replace K := lh (K.out.trans (hy.mono K.out.size))
  replace N := lh (N.out.below hy N.out.lt)
  clear hy
  go_wp2
  go_ret
  exact ⟨rfl, K.out⟩
set_option maxRecDepth 100000 in
set_option maxHeartbeats 2000000 in
theorem rvalid_17y (k : Fl) (hk : k.Fit) (hp : k.p = 17) (hS : vldA k.sv k.S = true) (hD : vldA k.dv k.D = true) (w : World) :
    Calls Try.prog 38 #[.agg k.cs] w fun e w' => e = .returned (.bool (k.sv == k.dv)) ∧ Below w.heap.size w w' := by
  have K := lh (Below.refl w.heap.size w)
  have CV1 := lh (fun W => ref_adr k.sv k.S hk.lS W)
  have CV2 := lh (fun W => ref_adr k.dv k.D hk.lD W)
  obtain ⟨a0, a1, a18, a35, a36⟩ := fl_get k hk
  have G0 := lh a0
  have G1 := lh a1
  have G18 := lh a18
  have G35 := lh a35
  have G36 := lh a36
  have KP1 := lh (fl_src k)
  have KP2 := lh (fl_dst k hk)
  have IS := lh (fl_is k hk)
  have ID := lh (fl_id k hk)
  have IK := lh (fl_ik k hk)
  clear a0 a1 a18 a35 a36
  have e6 : ((k.p : Int) != 6) = true := by rw [hp]; rfl
  have f6 : ((k.p : Int) == 6) = false := by rw [hp]; rfl
  have e17 : ((k.p : Int) != 17) = false := by rw [hp]; rfl
  have f17 : ((k.p : Int) == 17) = true := by rw [hp]; rfl
  clear hp
  unfold adr at CV1 CV2
  generalize vldA k.sv k.S = vS at *
  generalize vldA k.dv k.D = vD at *
  generalize k.cs = kc at *
  generalize cellsA k.sv k.S = S at *
  generalize cellsA k.dv k.D = D at *
  generalize k.p = p at *
  generalize k.sv = sv at *
  generalize k.dv = dv at *
  generalize k.sp = sp at *
  generalize k.dp = dp at *
  clear hk
  subst hS
  subst hD
  go_enter Try.func38, Try.ntmps38
  have hal := (Below.refl w.heap.size w).alloc (Nat.le_refl _) (.cells kc 42)
  replace K := lh (K.out.trans (hal.mono K.out.size))
  have N := lh (Blk.new w 42 kc)
  clear hal
  have L49 := (N.out.cell 0).trans G0.out
  have L50 := (N.out.cell 0).trans G0.out
  have L51 : (loadVar 26 ⟨w.heap.size, 1, none⟩).run Try.prog (w.alloc (.cells kc 42)) = .ok (.agg S) (w.alloc (.cells kc 42)) := by have h := run_part_load (P := Try.prog) 26 1 S.toList _ N.out KP1.out Try.underlying26 rfl IS.out; rwa [Array.toArray_toList] at h
  replace L51 := lh L51
  go_wp2_with (((with_reducible refine wpList_load_want (op := ⟨some 13, .load 26 (.tmp 12), _, _, _, _⟩) ?wg51 26 (.tmp 12) ?wo51 ⟨w.heap.size, 1, none⟩ ?wx51 (.agg S) L51.out ?_); (case wg51 => rfl); (case wo51 => rfl); (case wx51 => rfl)))
  clear L49 L50 L51
  have hzV1 : Hid ((w.alloc (.cells kc 42)).heap.size = w.heap.size + 1) := by show _ = _; simp only [World.size_alloc]
  generalize (w.alloc (.cells kc 42)) = V1 at *
  refine (CV1.out V1).mono ?_
  rintro e V2 ⟨rfl, hy⟩
  replace K := lh (K.out.trans (hy.mono K.out.size))
  replace N := lh (N.out.below hy N.out.lt)
  clear hy
  have L52 : (loadVar 26 ⟨w.heap.size, 18, none⟩).run Try.prog V2 = .ok (.agg D) V2 := by have h := run_part_load (P := Try.prog) 26 18 D.toList _ N.out KP2.out Try.underlying26 rfl ID.out; rwa [Array.toArray_toList] at h
  replace L52 := lh L52
  go_wp2_with (((with_reducible refine wpList_load_want (op := ⟨some 18, .load 26 (.tmp 17), _, _, _, _⟩) ?wg52 26 (.tmp 17) ?wo52 ⟨w.heap.size, 18, none⟩ ?wx52 (.agg D) L52.out ?_); (case wg52 => rfl); (case wo52 => rfl); (case wx52 => rfl)))
  clear L52
  refine (CV2.out V2).mono ?_
  rintro e V3 ⟨rfl, hy⟩
  replace K := lh (K.out.trans (hy.mono K.out.size))
  replace N := lh (N.out.below hy N.out.lt)
  clear hy
  have L53 := (N.out.cell 1).trans G1.out
  have L54 := (N.out.cell 18).trans G18.out
  go_wp2
  go_ret
  exact ⟨rfl, K.out⟩
set_option maxRecDepth 100000 in
theorem p_cases (p : Nat) : p = 6 ∨ p = 17 ∨ (p ≠ 6 ∧ p ≠ 17) := by omega
set_option maxRecDepth 100000 in
theorem kvalid_any (k : Fl) (hk : k.Fit) (w : World) : Calls Try.prog 49 #[.agg k.cs] w fun e w' => e = .returned (.bool (vK k)) ∧ Below w.heap.size w w' := by
  rcases p_cases k.p with hp | hp | hp
  · cases hq : k.sv == k.dv with
    | false => rw [show vK k = false from by unfold vK; rw [hq]; simp]; exact kvalid_6k k hk hp hq w
    | true =>
      cases hS : vldA k.sv k.S with
      | false => rw [show vK k = false from by unfold vK; rw [hS]; simp]; exact kvalid_6s k hk hp hq hS w
      | true => rw [show vK k = vldA k.dv k.D from by unfold vK; rw [hS, hq, hp]; simp]; exact kvalid_6y k hk hp hq hS w
  · cases hq : k.sv == k.dv with
    | false => rw [show vK k = false from by unfold vK; rw [hq]; simp]; exact kvalid_17k k hk hp hq w
    | true =>
      cases hS : vldA k.sv k.S with
      | false => rw [show vK k = false from by unfold vK; rw [hS]; simp]; exact kvalid_17s k hk hp hq hS w
      | true => rw [show vK k = vldA k.dv k.D from by unfold vK; rw [hS, hq, hp]; simp]; exact kvalid_17y k hk hp hq hS w
  · rw [show vK k = false from by unfold vK; rw [decide_eq_false hp.1, decide_eq_false hp.2]; simp]; exact kvalid_0 k hk hp w
set_option maxRecDepth 100000 in
theorem rvalid_any (k : Fl) (hk : k.Fit) (w : World) : Calls Try.prog 38 #[.agg k.cs] w fun e w' => e = .returned (.bool (vK k)) ∧ Below w.heap.size w w' := by
  rcases p_cases k.p with hp | hp | hp
  · cases hS : vldA k.sv k.S with
    | false => rw [show vK k = false from by unfold vK; rw [hS]; simp]; exact rvalid_6s k hk hp hS w
    | true =>
      cases hD : vldA k.dv k.D with
      | false => rw [show vK k = false from by unfold vK; rw [hD]; simp]; exact rvalid_6d k hk hp hS hD w
      | true => rw [show vK k = (k.sv == k.dv) from by unfold vK; rw [hS, hD, hp]; simp]; exact rvalid_6y k hk hp hS hD w
  · cases hS : vldA k.sv k.S with
    | false => rw [show vK k = false from by unfold vK; rw [hS]; simp]; exact rvalid_17s k hk hp hS w
    | true =>
      cases hD : vldA k.dv k.D with
      | false => rw [show vK k = false from by unfold vK; rw [hD]; simp]; exact rvalid_17d k hk hp hS hD w
      | true => rw [show vK k = (k.sv == k.dv) from by unfold vK; rw [hS, hD, hp]; simp]; exact rvalid_17y k hk hp hS hD w
  · rw [show vK k = false from by unfold vK; rw [decide_eq_false hp.1, decide_eq_false hp.2]; simp]; exact rvalid_0 k hk hp w
end Go.Proofs.Ythldpnifodbheaa
namespace Go.Proofs.Ythldpnifodbheaa
open Go.RowKit
set_option maxRecDepth 100000 in
theorem bytesA_n (v : Bool) (bs : List Nat) (h : bs.length = 16) : 0 < (bytesA v bs).length ∧ (bytesA v bs).length ≤ 16 := by
  unfold bytesA
  split
  · omega
  · rw [List.length_take]; omega
set_option maxRecDepth 100000 in
theorem bK_no {k : Fl} (h : vK k = false) : bK k = [] := by unfold bK; rw [h]; rfl
set_option maxRecDepth 100000 in
theorem bK_yes {k : Fl} (h : vK k = true) : bK k = bR k := by unfold bK; rw [h]; rfl
set_option maxRecDepth 100000 in
theorem rd_blk2 {w : World} {g p q : Nat} (h : Blk w g 5 #[.int .u8 (p : Int), .int .u8 (q : Int)]) : Rd w (.slice (some ⟨g, 0, none⟩) 2 2) (nus .u8 [p, q]) := by
  refine ⟨_, _, rfl, Nat.le_refl _, by simp [maxLen], .inr ⟨g, 0, rfl, h.lt, fun i hi => ?_⟩⟩
  rw [Nat.zero_add, h.cell i]
  simp [nus]
set_option maxRecDepth 100000 in
set_option maxHeartbeats 4000000 in
theorem kbytes_no (k : Fl) (hk : k.Fit) (hv : vK k = false) (w : World) :
    Calls Try.prog 68 #[.agg k.cs] w fun e w' => e = .returned (.slice none 0 0) ∧ Below w.heap.size w w' := by
  have K := lh (Below.refl w.heap.size w)
  have CV := lh (fun W => kvalid_any k hk W)
  rw [hv] at CV
  obtain ⟨a0, a1, a18, a35, a36⟩ := fl_get k hk
  have G0 := lh a0
  have G1 := lh a1
  have G18 := lh a18
  have G35 := lh a35
  have G36 := lh a36
  have KP1 := lh (fl_src k)
  have KP2 := lh (fl_dst k hk)
  have IS := lh (fl_is k hk)
  have ID := lh (fl_id k hk)
  have IK := lh (fl_ik k hk)
  clear a0 a1 a18 a35 a36
  generalize k.cs = kc at *
  generalize cellsA k.sv k.S = S at *
  generalize cellsA k.dv k.D = D at *
  generalize k.p = p at *
  generalize k.sv = sv at *
  generalize k.dv = dv at *
  generalize k.sp = sp at *
  generalize k.dp = dp at *
  clear hk hv
  go_enter Try.func68, Try.ntmps68
  have hal := (Below.refl w.heap.size w).alloc (Nat.le_refl _) (.cells kc 42)
  replace K := lh (K.out.trans (hal.mono K.out.size))
  have N := lh (Blk.new w 42 kc)
  clear hal
  have L1 : (loadVar 42 ⟨w.heap.size, 0, none⟩).run Try.prog (w.alloc (.cells kc 42)) = .ok (.agg kc) (w.alloc (.cells kc 42)) := run_blk_load (P := Try.prog) 42 (w.heap.size) _ N.out Try.underlying42 rfl IK.out
  replace L1 := lh L1
  go_wp2_with (((with_reducible refine wpList_load_want (op := ⟨some 5, .load 42 (.tmp 1), _, _, _, _⟩) ?wg1 42 (.tmp 1) ?wo1 ⟨w.heap.size, 0, none⟩ ?wx1 (.agg kc) L1.out ?_); (case wg1 => rfl); (case wo1 => rfl); (case wx1 => rfl)))
  clear L1
  have hzV1 : Hid ((w.alloc (.cells kc 42)).heap.size = w.heap.size + 1) := by show _ = _; simp only [World.size_alloc]
  generalize (w.alloc (.cells kc 42)) = V1 at *
  refine (CV.out V1).mono ?_
  rintro e V2 ⟨rfl, hy⟩
  replace K := lh (K.out.trans (hy.mono K.out.size))
  replace N := lh (N.out.below hy N.out.lt)
  clear hy
  go_wp2
  go_ret
  exact ⟨rfl, K.out⟩
set_option maxRecDepth 100000 in
set_option maxHeartbeats 4000000 in
theorem kbytes_yes (k : Fl) (hk : k.Fit) (hv : vK k = true) (w : World) :
    Calls Try.prog 68 #[.agg k.cs] w fun e w' => ∃ x, e = .returned x ∧ Rd w' x (nus .u8 (bK k)) ∧ Below w.heap.size w w' := by
  have K := lh (Below.refl w.heap.size w)
  have CV := lh (fun W => kvalid_any k hk W)
  rw [hv] at CV
  rw [bK_yes hv]
  have CK := lh (fun W => kindOf_any k.sv k.S W)
  have CB1 := lh (fun W => bytes_own k.sv k.S hk.lS W)
  have CB2 := lh (fun W => bytes_own k.dv k.D hk.lD W)
  obtain ⟨n1a, n1b⟩ := bytesA_n k.sv k.S hk.lS
  obtain ⟨n2a, n2b⟩ := bytesA_n k.dv k.D hk.lD
  have hsp := hk.sp
  have hdp := hk.dp
  have HB : Hid (bR k = ([k.p, kdN k.sv] ++ (bytesA k.sv k.S ++ bytesA k.dv k.D)) ++ bg 2 k.sp ++ bg 2 k.dp) := by show _ = _; unfold bR kdN; simp
  obtain ⟨a0, a1, a18, a35, a36⟩ := fl_get k hk
  have G0 := lh a0
  have G1 := lh a1
  have G18 := lh a18
  have G35 := lh a35
  have G36 := lh a36
  have KP1 := lh (fl_src k)
  have KP2 := lh (fl_dst k hk)
  have IS := lh (fl_is k hk)
  have ID := lh (fl_id k hk)
  have IK := lh (fl_ik k hk)
  clear a0 a1 a18 a35 a36
  unfold adr at CK CB1 CB2
  generalize bR k = BR at *
  generalize bytesA k.sv k.S = B1 at *
  generalize bytesA k.dv k.D = B2 at *
  generalize kdN k.sv = kd at *
  generalize k.cs = kc at *
  generalize cellsA k.sv k.S = S at *
  generalize cellsA k.dv k.D = D at *
  generalize k.p = p at *
  generalize k.sv = sv at *
  generalize k.dv = dv at *
  generalize k.sp = sp at *
  generalize k.dp = dp at *
  clear hk hv
  obtain ⟨m1, hm1⟩ : ∃ m, m = B1.length := ⟨_, rfl⟩
  obtain ⟨m2, hm2⟩ : ∃ m, m = B2.length := ⟨_, rfl⟩
  rw [← hm1] at CB1 n1a n1b
  rw [← hm2] at CB2 n2a n2b
  have HM1 := lh hm1
  have HM2 := lh hm2
  clear hm1 hm2
  go_enter Try.func68, Try.ntmps68
  have hal := (Below.refl w.heap.size w).alloc (Nat.le_refl _) (.cells kc 42)
  replace K := lh (K.out.trans (hal.mono K.out.size))
  have N := lh (Blk.new w 42 kc)
  clear hal
  have L2 : (loadVar 42 ⟨w.heap.size, 0, none⟩).run Try.prog (w.alloc (.cells kc 42)) = .ok (.agg kc) (w.alloc (.cells kc 42)) := run_blk_load (P := Try.prog) 42 (w.heap.size) _ N.out Try.underlying42 rfl IK.out
  replace L2 := lh L2
  go_wp2_with (((with_reducible refine wpList_load_want (op := ⟨some 5, .load 42 (.tmp 1), _, _, _, _⟩) ?wg2 42 (.tmp 1) ?wo2 ⟨w.heap.size, 0, none⟩ ?wx2 (.agg kc) L2.out ?_); (case wg2 => rfl); (case wo2 => rfl); (case wx2 => rfl)))
  clear L2
  have hzV1 : Hid ((w.alloc (.cells kc 42)).heap.size = w.heap.size + 1) := by show _ = _; simp only [World.size_alloc]
  generalize (w.alloc (.cells kc 42)) = V1 at *
  refine (CV.out V1).mono ?_
  rintro e V2 ⟨rfl, hy⟩
  replace K := lh (K.out.trans (hy.mono K.out.size))
  replace N := lh (N.out.below hy N.out.lt)
  clear hy
  go_wp2_with fail
  refine wp_region_held (S := (fun w' : World => Below (V2.heap.size) V2 w')) (by kernel_rfl) ?_
  change wpAnyH _ _ _ _ _ _ _ _ V2.drew
  have hy : Below V2.heap.size V2 V2.drew := (Below.refl _ _).drew
  have hE0 : Below (V2.heap.size) V2 V2.drew := (Below.refl _ _).drew
  clear hy
  generalize V2.drew = Y3x0 at hE0  ⊢
  have E0 := lh hE0
  clear hE0
  refine tkA 0 (?_) ?_ E0.out ?_
  rotate_left
  · (intro w1 hS; go_simp; try with_reducible rfl)
  simp only [Act.put, tS1, tS2, tS3]
  refine tkA 1 (?_) ?_ E0.out ?_
  rotate_left
  · (intro w1 hS; have hW := hS; have q := ((N.out.below hW N.out.lt).cell 0).trans G0.out; clear hW hS; go_simp; try with_reducible rfl)
  simp only [Act.put, tS1, tS2, tS3]
  refine tkA 2 (?_) ?_ E0.out ?_
  rotate_left
  · (intro w1 hS; go_simp; try with_reducible rfl)
  simp only [Act.put, tS1, tS2, tS3]
  refine tkA 3 (.agg S) ?_ E0.out ?_
  · (intro w1 hS; have hW := hS; exact exec_load 26 (.tmp 10) rfl _ rfl _ (by have h := run_part_load (P := Try.prog) 26 1 S.toList _ (N.out.below hW N.out.lt) KP1.out Try.underlying26 rfl IS.out; rwa [Array.toArray_toList] at h))
  simp only [Act.put, tS1, tS2, tS3]
  refine tkO 4 (fun KK hK => ?_)
  go_simp
  refine (CK.out Y3x0).mono ?_
  rintro e Y3x1 ⟨rfl, hy⟩
  have E1 := lh (E0.out.trans (hy.mono E0.out.size))
  have C1 := lh E1.out
  clear hy E0
  refine hK.out _ _ C1.out (fun _ => ?_)
  clear hK KK
  refine wpAnyH_mono (S' := (fun w' : World => Below Y3x1.heap.size Y3x1 w')) (fun w1 h => C1.out.trans (h.mono C1.out.size)) _ _ _ _ ?_
  clear C1
  try simp only [Act.put, tS1, tS2, tS3]
  refine tkO 5 (fun KK hK => ?_)
  go_simp
  have hy := (Below.refl Y3x1.heap.size Y3x1).alloc (Nat.le_refl _) (.cells #[Value.int .u8 (p : Int), .int .u8 (kd : Int)] 5)
  have BB := Blk.new Y3x1 5 #[Value.int .u8 (p : Int), .int .u8 (kd : Int)]
  obtain ⟨ga, hga⟩ : ∃ g, g = Y3x1.heap.size := ⟨_, rfl⟩
  rw [← hga] at BB
  rw [← hga]
  generalize Y3x1.alloc (.cells #[Value.int .u8 (p : Int), .int .u8 (kd : Int)] 5) = Y3x2 at BB hy ⊢
  clear hga
  have E2 := lh (E1.out.trans (hy.mono E1.out.size))
  have C2 := lh hy
  have BA := lh (BB)
  clear BB
  clear hy E1
  refine hK.out _ _ C2.out (fun _ => ?_)
  clear hK KK
  refine wpAnyH_mono (S' := (fun w' : World => Below Y3x2.heap.size Y3x2 w')) (fun w1 h => C2.out.trans (h.mono C2.out.size)) _ _ _ _ ?_
  clear C2
  try simp only [Act.put, tS1, tS2, tS3]
  refine tkA 6 (?_) ?_ (Below.refl _ _) ?_
  rotate_left
  · (intro w1 hS; go_simp; try with_reducible rfl)
  simp only [Act.put, tS1, tS2, tS3]
  refine wpAnyH_done (by kernel_rfl) ?_ _
  have hy := E2.out
  replace K := lh (K.out.trans (hy.mono K.out.size))
  replace N := lh (N.out.below hy N.out.lt)
  clear hy E2
  go_wp2_with fail
  refine wp_region_held (S := (fun w' : World => Below (Y3x2.heap.size) Y3x2 w')) (by kernel_rfl) ?_
  change wpAnyH _ _ _ _ _ _ _ _ Y3x2.drew
  have hy : Below Y3x2.heap.size Y3x2 Y3x2.drew := (Below.refl _ _).drew
  have hE0 : Below (Y3x2.heap.size) Y3x2 Y3x2.drew := (Below.refl _ _).drew
  clear hy
  generalize Y3x2.drew = Y4x0 at hE0  ⊢
  have E0 := lh hE0
  clear hE0
  refine tkA 0 (?_) ?_ E0.out ?_
  rotate_left
  · (intro w1 hS; go_simp; try with_reducible rfl)
  simp only [Act.put, tS1, tS2, tS3]
  refine tkA 1 (?_) ?_ E0.out ?_
  rotate_left
  · (intro w1 hS; go_simp; try with_reducible rfl)
  simp only [Act.put, tS1, tS2, tS3]
  refine tkA 2 (.agg S) ?_ E0.out ?_
  · (intro w1 hS; have hW := hS; exact exec_load 26 (.tmp 15) rfl _ rfl _ (by have h := run_part_load (P := Try.prog) 26 1 S.toList _ (N.out.below hW N.out.lt) KP1.out Try.underlying26 rfl IS.out; rwa [Array.toArray_toList] at h))
  simp only [Act.put, tS1, tS2, tS3]
  refine tkA 4 (?_) ?_ E0.out ?_
  rotate_left
  · (intro w1 hS; go_simp; try with_reducible rfl)
  simp only [Act.put, tS1, tS2, tS3]
  refine tkA 5 (.agg D) ?_ E0.out ?_
  · (intro w1 hS; have hW := hS; exact exec_load 26 (.tmp 18) rfl _ rfl _ (by have h := run_part_load (P := Try.prog) 26 18 D.toList _ (N.out.below hW N.out.lt) KP2.out Try.underlying26 rfl ID.out; rwa [Array.toArray_toList] at h))
  simp only [Act.put, tS1, tS2, tS3]
  refine tkO 3 (fun KK hK => ?_)
  go_simp
  refine (CB1.out Y4x0).mono ?_
  rintro e Y4x1 ⟨z1, rfl, oz1, hy⟩
  have E1 := lh (E0.out.trans (hy.mono E0.out.size))
  have C1 := lh E1.out
  have R1 := lh (Rd.own oz1)
  obtain ⟨g1, c1, rfl, -, -, -, -⟩ := own_at oz1 (by omega)
  clear oz1
  clear hy E0
  refine hK.out _ _ C1.out (fun _ => ?_)
  clear hK KK
  refine wpAnyH_mono (S' := (fun w' : World => Below Y4x1.heap.size Y4x1 w')) (fun w1 h => C1.out.trans (h.mono C1.out.size)) _ _ _ _ ?_
  clear C1
  try simp only [Act.put, tS1, tS2, tS3]
  refine tkO 6 (fun KK hK => ?_)
  go_simp
  refine (CB2.out Y4x1).mono ?_
  rintro e Y4x2 ⟨z2, rfl, oz2, hy⟩
  replace R1 := lh (R1.out.below hy)
  have E2 := lh (E1.out.trans (hy.mono E1.out.size))
  have C2 := lh hy
  have R2 := lh (Rd.own oz2)
  obtain ⟨g2, c2, rfl, -, -, -, -⟩ := own_at oz2 (by omega)
  clear oz2
  clear hy E1
  refine hK.out _ _ C2.out (fun _ => ?_)
  clear hK KK
  refine wpAnyH_mono (S' := (fun w' : World => Below Y4x2.heap.size Y4x2 w')) (fun w1 h => C2.out.trans (h.mono C2.out.size)) _ _ _ _ ?_
  clear C2
  try simp only [Act.put, tS1, tS2, tS3]
  refine tkO 7 (fun KK hK => ?_)
  go_simp
  have hy := (Below.refl Y4x2.heap.size Y4x2).alloc (Nat.le_refl _) (.cells #[Value.slice (some ⟨ga, 0, none⟩) 2 2, .slice (some ⟨g1, 0, none⟩) m1 c1, .slice (some ⟨g2, 0, none⟩) m2 c2] 124)
  have BB := Blk.new Y4x2 124 #[Value.slice (some ⟨ga, 0, none⟩) 2 2, .slice (some ⟨g1, 0, none⟩) m1 c1, .slice (some ⟨g2, 0, none⟩) m2 c2]
  obtain ⟨gb, hgb⟩ : ∃ g, g = Y4x2.heap.size := ⟨_, rfl⟩
  rw [← hgb] at BB
  rw [← hgb]
  generalize Y4x2.alloc (.cells #[Value.slice (some ⟨ga, 0, none⟩) 2 2, .slice (some ⟨g1, 0, none⟩) m1 c1, .slice (some ⟨g2, 0, none⟩) m2 c2] 124) = Y4x3 at BB hy ⊢
  clear hgb
  replace R1 := lh (R1.out.below hy)
  replace R2 := lh (R2.out.below hy)
  have E3 := lh (E2.out.trans (hy.mono E2.out.size))
  have C3 := lh hy
  have BL := lh (BB)
  clear BB
  clear hy E2
  refine hK.out _ _ C3.out (fun _ => ?_)
  clear hK KK
  refine wpAnyH_mono (S' := (fun w' : World => Below Y4x3.heap.size Y4x3 w')) (fun w1 h => C3.out.trans (h.mono C3.out.size)) _ _ _ _ ?_
  clear C3
  try simp only [Act.put, tS1, tS2, tS3]
  refine tkO 8 (fun KK hK => ?_)
  go_simp
  refine (concat_3 gb (some ⟨ga, 0, none⟩) (some ⟨g1, 0, none⟩) (some ⟨g2, 0, none⟩) 2 m1 m2 2 c1 c2 [p, kd] B1 B2 Y4x3 BL.out (rd_blk2 (BA.out.below E3.out BA.out.lt)) R1.out R2.out (by intro e; cases e) (by intro e; cases e) (by intro e; cases e) rfl HM1.out.symm HM2.out.symm (by omega) (by omega)).mono ?_
  rintro e Y4x4 ⟨z3, rfl, oz3, hy⟩
  replace R1 := lh (R1.out.below hy)
  replace R2 := lh (R2.out.below hy)
  replace BL := lh (BL.out.below hy BL.out.lt)
  have E4 := lh (E3.out.trans (hy.mono E3.out.size))
  have C4 := lh hy
  have R3 := lh (own_low (Nat.zero_le _) oz3)
  obtain ⟨g3, c3, rfl, -, -, -, -⟩ := own_at oz3 (by omega)
  clear oz3
  clear hy E3
  refine hK.out _ _ C4.out (fun _ => ?_)
  clear hK KK
  refine wpAnyH_mono (S' := (fun w' : World => Below Y4x4.heap.size Y4x4 w')) (fun w1 h => C4.out.trans (h.mono C4.out.size)) _ _ _ _ ?_
  clear C4
  try simp only [Act.put, tS1, tS2, tS3]
  refine tkA 9 (?_) ?_ (Below.refl _ _) ?_
  rotate_left
  · (intro w1 hS; go_simp; try with_reducible rfl)
  simp only [Act.put, tS1, tS2, tS3]
  refine wpAnyH_done (by kernel_rfl) ?_ _
  have hy := E4.out
  replace K := lh (K.out.trans (hy.mono K.out.size))
  replace N := lh (N.out.below hy N.out.lt)
  replace BA := lh (BA.out.below hy BA.out.lt)
  clear hy E4
  have HM : Hid (([p, kd] ++ (B1 ++ B2)).length = 2 + m1 + m2) := by show _ = _; rw [List.length_append, List.length_append, ← HM1.out, ← HM2.out]; show 2 + _ = _; omega
  go_wp2_with fail
  refine wp_region_held (S := (fun w' : World => Below (Y4x4.heap.size) Y4x4 w')) (by kernel_rfl) ?_
  change wpAnyH _ _ _ _ _ _ _ _ Y4x4.drew
  have hy : Below Y4x4.heap.size Y4x4 Y4x4.drew := (Below.refl _ _).drew
  have hE0 : Below (Y4x4.heap.size) Y4x4 Y4x4.drew := (Below.refl _ _).drew
  clear hy
  generalize Y4x4.drew = Y5x0 at hE0  ⊢
  have E0 := lh hE0
  clear hE0
  refine tkA 0 (?_) ?_ E0.out ?_
  rotate_left
  · (intro w1 hS; go_simp; try with_reducible rfl)
  simp only [Act.put, tS1, tS2, tS3]
  refine tkA 1 (?_) ?_ E0.out ?_
  rotate_left
  · (intro w1 hS; go_simp; try with_reducible rfl)
  simp only [Act.put, tS1, tS2, tS3]
  refine tkA 2 (?_) ?_ E0.out ?_
  rotate_left
  · (intro w1 hS; have hW := hS; have q := ((N.out.below hW N.out.lt).cell 35).trans G35.out; clear hW hS; go_simp; try with_reducible rfl)
  simp only [Act.put, tS1, tS2, tS3]
  refine tkA 4 (?_) ?_ E0.out ?_
  rotate_left
  · (intro w1 hS; go_simp; try with_reducible rfl)
  simp only [Act.put, tS1, tS2, tS3]
  refine tkA 5 (?_) ?_ E0.out ?_
  rotate_left
  · (intro w1 hS; have hW := hS; have q := ((N.out.below hW N.out.lt).cell 36).trans G36.out; clear hW hS; go_simp; try with_reducible rfl)
  simp only [Act.put, tS1, tS2, tS3]
  refine tkO 3 (fun KK hK => ?_)
  go_simp
  refine (app16_any _ ([p, kd] ++ (B1 ++ B2)) sp Y5x0 ((Rd.own R3.out).below E0.out) (by rw [HM.out]; omega) hsp).mono ?_
  rintro e Y5x1 ⟨z4, rfl, oz4, hy⟩
  have E1 := lh (E0.out.trans (hy.mono E0.out.size))
  have C1 := lh E1.out
  have R4 := lh (Rd.own oz4)
  clear oz4
  clear hy E0
  refine hK.out _ _ C1.out (fun _ => ?_)
  clear hK KK
  refine wpAnyH_mono (S' := (fun w' : World => Below Y5x1.heap.size Y5x1 w')) (fun w1 h => C1.out.trans (h.mono C1.out.size)) _ _ _ _ ?_
  clear C1
  try simp only [Act.put, tS1, tS2, tS3]
  refine tkO 6 (fun KK hK => ?_)
  go_simp
  refine (app16_any _ (([p, kd] ++ (B1 ++ B2)) ++ bg 2 sp) dp Y5x1 R4.out (by rw [List.length_append, HM.out, bg_length]; omega) hdp).mono ?_
  rintro e Y5x2 ⟨z5, rfl, oz5, hy⟩
  replace R4 := lh (R4.out.below hy)
  have E2 := lh (E1.out.trans (hy.mono E1.out.size))
  have C2 := lh hy
  have R5 := lh (Rd.own oz5)
  clear oz5
  clear hy E1
  refine hK.out _ _ C2.out (fun _ => ?_)
  clear hK KK
  refine wpAnyH_mono (S' := (fun w' : World => Below Y5x2.heap.size Y5x2 w')) (fun w1 h => C2.out.trans (h.mono C2.out.size)) _ _ _ _ ?_
  clear C2
  try simp only [Act.put, tS1, tS2, tS3]
  refine tkA 7 (?_) ?_ (Below.refl _ _) ?_
  rotate_left
  · (intro w1 hS; go_simp; try with_reducible rfl)
  simp only [Act.put, tS1, tS2, tS3]
  refine wpAnyH_done (by kernel_rfl) ?_ _
  have hy := E2.out
  replace K := lh (K.out.trans (hy.mono K.out.size))
  replace N := lh (N.out.below hy N.out.lt)
  replace BA := lh (BA.out.below hy BA.out.lt)
  replace R3 := lh (row_under R3.out hy)
  clear hy E2
  go_wp2
  go_ret
  exact ⟨_, rfl, by rw [HB.out]; exact R5.out, K.out⟩
set_option maxRecDepth 100000 in
theorem kbytes_any (k : Fl) (hk : k.Fit) (w : World) : Calls Try.prog 68 #[.agg k.cs] w fun e w' => ∃ x, e = .returned x ∧ Rd w' x (nus .u8 (bK k)) ∧ Below w.heap.size w w' := by
  cases hv : vK k with
  | false => rw [bK_no hv]; exact (kbytes_no k hk hv w).mono fun e w' h => ⟨_, h.1, rd_nil _ _, h.2⟩
  | true => exact kbytes_yes k hk hv w
end Go.Proofs.Ythldpnifodbheaa
namespace Go.Proofs.Ythldpnifodbheaa
open Go.RowKit
set_option maxRecDepth 100000 in
set_option maxHeartbeats 4000000 in
theorem rbytes_no (k : Fl) (hk : k.Fit) (hv : vK k = false)  (w : World) :
    Calls Try.prog 59 #[.agg k.cs] w fun e w' => ∃ x, e = .returned x ∧ Rd w' x (nus .u8 (bK k)) ∧ Below w.heap.size w w' := by
  have K := lh (Below.refl w.heap.size w)
  have CV := lh (fun W => rvalid_any k hk W)
  rw [hv] at CV
  rw [bK_no hv]
  obtain ⟨a0, a1, a18, a35, a36⟩ := fl_get k hk
  have G0 := lh a0
  have G1 := lh a1
  have G18 := lh a18
  have G35 := lh a35
  have G36 := lh a36
  have KP1 := lh (fl_src k)
  have KP2 := lh (fl_dst k hk)
  have IS := lh (fl_is k hk)
  have ID := lh (fl_id k hk)
  have IK := lh (fl_ik k hk)
  clear a0 a1 a18 a35 a36
  generalize k.cs = kc at *
  generalize cellsA k.sv k.S = S at *
  generalize cellsA k.dv k.D = D at *
  generalize k.p = p at *
  generalize k.sv = sv at *
  generalize k.dv = dv at *
  generalize k.sp = sp at *
  generalize k.dp = dp at *
  clear hk hv
  go_enter Try.func59, Try.ntmps59
  have hal := (Below.refl w.heap.size w).alloc (Nat.le_refl _) (.cells kc 42)
  replace K := lh (K.out.trans (hal.mono K.out.size))
  have N := lh (Blk.new w 42 kc)
  clear hal
  have L1 : (loadVar 42 ⟨w.heap.size, 0, none⟩).run Try.prog (w.alloc (.cells kc 42)) = .ok (.agg kc) (w.alloc (.cells kc 42)) := run_blk_load (P := Try.prog) 42 (w.heap.size) _ N.out Try.underlying42 rfl IK.out
  replace L1 := lh L1
  go_wp2_with (((with_reducible refine wpList_load_want (op := ⟨some 5, .load 42 (.tmp 1), _, _, _, _⟩) ?wg1 42 (.tmp 1) ?wo1 ⟨w.heap.size, 0, none⟩ ?wx1 (.agg kc) L1.out ?_); (case wg1 => rfl); (case wo1 => rfl); (case wx1 => rfl)))
  clear L1
  have hzV1 : Hid ((w.alloc (.cells kc 42)).heap.size = w.heap.size + 1) := by show _ = _; simp only [World.size_alloc]
  generalize (w.alloc (.cells kc 42)) = V1 at *
  refine (CV.out V1).mono ?_
  rintro e V2 ⟨rfl, hy⟩
  replace K := lh (K.out.trans (hy.mono K.out.size))
  replace N := lh (N.out.below hy N.out.lt)
  clear hy
  go_wp2
  go_ret
  exact ⟨_, rfl, rd_nil _ _, K.out⟩
set_option maxRecDepth 100000 in
set_option maxHeartbeats 4000000 in
theorem rbytes_four (k : Fl) (hk : k.Fit) (hv : vK k = true) (h6 : k.sv = false) (w : World) :
    Calls Try.prog 59 #[.agg k.cs] w fun e w' => ∃ x, e = .returned x ∧ Rd w' x (nus .u8 (bK k)) ∧ Below w.heap.size w w' := by
  have K := lh (Below.refl w.heap.size w)
  have CV := lh (fun W => rvalid_any k hk W)
  rw [hv] at CV
  rw [bK_yes hv]
  have CB1 := lh (fun W => rbytes_own k.sv k.S hk.lS W)
  have CB2 := lh (fun W => rbytes_own k.dv k.D hk.lD W)
  obtain ⟨n1a, n1b⟩ := bytesA_n k.sv k.S hk.lS
  obtain ⟨n2a, n2b⟩ := bytesA_n k.dv k.D hk.lD
  have hsp := hk.sp
  have hdp := hk.dp
  have HB : Hid (bR k = [k.p, 4] ++ bytesA k.sv k.S ++ bytesA k.dv k.D ++ [k.sp / 256, k.sp % 256, k.dp / 256, k.dp % 256]) := by show _ = _; unfold bR; rw [bg2 _ hsp, bg2 _ hdp, h6]; simp
  obtain ⟨a0, a1, a18, a35, a36⟩ := fl_get k hk
  have G0 := lh a0
  have G1 := lh a1
  have G18 := lh a18
  have G35 := lh a35
  have G36 := lh a36
  have KP1 := lh (fl_src k)
  have KP2 := lh (fl_dst k hk)
  have IS := lh (fl_is k hk)
  have ID := lh (fl_id k hk)
  have IK := lh (fl_ik k hk)
  clear a0 a1 a18 a35 a36
  unfold adr at CB1 CB2
  generalize bR k = BR at *
  generalize bytesA k.sv k.S = B1 at *
  generalize bytesA k.dv k.D = B2 at *
  generalize k.cs = kc at *
  generalize cellsA k.sv k.S = S at *
  generalize cellsA k.dv k.D = D at *
  generalize k.p = p at *
  generalize k.sv = sv at *
  generalize k.dv = dv at *
  generalize k.sp = sp at *
  generalize k.dp = dp at *
  clear hk hv
  subst h6
  obtain ⟨m1, hm1⟩ : ∃ m, m = B1.length := ⟨_, rfl⟩
  obtain ⟨m2, hm2⟩ : ∃ m, m = B2.length := ⟨_, rfl⟩
  rw [← hm1] at CB1 n1a n1b
  rw [← hm2] at CB2 n2a n2b
  have HM1 := lh hm1
  have HM2 := lh hm2
  clear hm1 hm2
  obtain ⟨d1, hd1⟩ : ∃ d, d = sp / 256 := ⟨_, rfl⟩
  obtain ⟨d2, hd2⟩ : ∃ d, d = sp % 256 := ⟨_, rfl⟩
  obtain ⟨d3, hd3⟩ : ∃ d, d = dp / 256 := ⟨_, rfl⟩
  obtain ⟨d4, hd4⟩ : ∃ d, d = dp % 256 := ⟨_, rfl⟩
  have hw1 : IntKind.u8.wrap ((sp : Int) / 256) = (d1 : Int) := by rw [IntKind.wrap_u8]; omega
  have hw2 : IntKind.u8.wrap (sp : Int) = (d2 : Int) := by rw [IntKind.wrap_u8]; omega
  have hw3 : IntKind.u8.wrap ((dp : Int) / 256) = (d3 : Int) := by rw [IntKind.wrap_u8]; omega
  have hw4 : IntKind.u8.wrap (dp : Int) = (d4 : Int) := by rw [IntKind.wrap_u8]; omega
  rw [← hd1, ← hd2, ← hd3, ← hd4] at HB
  clear hd1 hd2 hd3 hd4 hsp hdp
  go_enter Try.func59, Try.ntmps59
  have hal := (Below.refl w.heap.size w).alloc (Nat.le_refl _) (.cells kc 42)
  replace K := lh (K.out.trans (hal.mono K.out.size))
  have N := lh (Blk.new w 42 kc)
  clear hal
  have L2 : (loadVar 42 ⟨w.heap.size, 0, none⟩).run Try.prog (w.alloc (.cells kc 42)) = .ok (.agg kc) (w.alloc (.cells kc 42)) := run_blk_load (P := Try.prog) 42 (w.heap.size) _ N.out Try.underlying42 rfl IK.out
  replace L2 := lh L2
  go_wp2_with (((with_reducible refine wpList_load_want (op := ⟨some 5, .load 42 (.tmp 1), _, _, _, _⟩) ?wg2 42 (.tmp 1) ?wo2 ⟨w.heap.size, 0, none⟩ ?wx2 (.agg kc) L2.out ?_); (case wg2 => rfl); (case wo2 => rfl); (case wx2 => rfl)))
  clear L2
  have hzV1 : Hid ((w.alloc (.cells kc 42)).heap.size = w.heap.size + 1) := by show _ = _; simp only [World.size_alloc]
  generalize (w.alloc (.cells kc 42)) = V1 at *
  refine (CV.out V1).mono ?_
  rintro e V2 ⟨rfl, hy⟩
  replace K := lh (K.out.trans (hy.mono K.out.size))
  replace N := lh (N.out.below hy N.out.lt)
  clear hy
  have L3 := (N.out.cell 1).trans G1.out
  go_wp2_with fail
  clear L3
  have hlow : V2.heap.size ≤ V2.heap.size := Nat.le_refl _
  have qK := K.out.size
  have qN := N.out.lt
  refine wp_region_held (S := (fun w' : World => Below (V2.heap.size) V2 w')) (by kernel_rfl) ?_
  change wpAnyH _ _ _ _ _ _ _ _ V2.drew
  have hy : Below V2.heap.size V2 V2.drew := (Below.refl _ _).drew
  have hE0 : Below (V2.heap.size) V2 V2.drew := (Below.refl _ _).drew
  clear hy
  generalize V2.drew = Y6x0 at hE0  ⊢
  have E0 := lh hE0
  clear hE0
  refine tkA 0 (?_) ?_ E0.out ?_
  rotate_left
  · (intro w1 hS; go_simp; try with_reducible rfl)
  simp only [Act.put, tS1, tS2, tS3]
  refine tkA 1 (?_) ?_ E0.out ?_
  rotate_left
  · (intro w1 hS; have hW := hS; have q := ((N.out.below hW (by omega)).cell 0).trans G0.out; clear hW hS; go_simp; try with_reducible rfl)
  simp only [Act.put, tS1, tS2, tS3]
  refine tkA 2 (?_) ?_ E0.out ?_
  rotate_left
  · (intro w1 hS; go_simp; try with_reducible rfl)
  simp only [Act.put, tS1, tS2, tS3]
  refine tkA 4 (?_) ?_ E0.out ?_
  rotate_left
  · (intro w1 hS; go_simp; try with_reducible rfl)
  simp only [Act.put, tS1, tS2, tS3]
  refine tkA 5 (.agg S) ?_ E0.out ?_
  · (intro w1 hS; have hW := hS; exact exec_load 26 (.tmp 15) rfl _ rfl _ (by have h := run_part_load (P := Try.prog) 26 1 S.toList _ (N.out.below hW (by omega)) KP1.out Try.underlying26 rfl IS.out; rwa [Array.toArray_toList] at h))
  simp only [Act.put, tS1, tS2, tS3]
  refine tkA 8 (?_) ?_ E0.out ?_
  rotate_left
  · (intro w1 hS; go_simp; try with_reducible rfl)
  simp only [Act.put, tS1, tS2, tS3]
  refine tkA 9 (.agg D) ?_ E0.out ?_
  · (intro w1 hS; have hW := hS; exact exec_load 26 (.tmp 19) rfl _ rfl _ (by have h := run_part_load (P := Try.prog) 26 18 D.toList _ (N.out.below hW (by omega)) KP2.out Try.underlying26 rfl ID.out; rwa [Array.toArray_toList] at h))
  simp only [Act.put, tS1, tS2, tS3]
  refine wpAnyH_ready (rs := [3, 6]) (by kernel_rfl) (by simp) ?_
  refine AllReadyH.cons (o := { dst := some 14, op := Op.buildSlice 124 2 #[(0, Operand.tmp 12), (1, Operand.tmp 13)], type := 124, pos := "table.go:34", after := #[{ on := 1, ground := Ground.data }, { on := 2, ground := Ground.data }], guard := none }) rfl (fun KK hK => ?_) (AllReadyH.cons (o := { dst := some 17, op := Op.call { callee := Callee.value (Operand.func 77), args := #[Operand.tmp 16], argTypes := #[26] }, type := 124, pos := "table.go:34", after := #[{ on := 5, ground := Ground.data }], guard := none }) rfl (fun KK hK => ?_) AllReadyH.nil)
  · go_simp
    have hy := (Below.refl Y6x0.heap.size Y6x0).alloc (Nat.le_refl _) (.cells #[Value.int .u8 (p : Int), .int .u8 4] 5)
    have O := (show (Y6x0.alloc (.cells #[Value.int .u8 (p : Int), .int .u8 4] 5)).ownsRow V2.heap.size 5 1 (.slice (some ⟨Y6x0.heap.size, 0, none⟩) 2 2) 2 (nus .u8 [p, 4]) from own_lit Y6x0 .u8 5 [p, 4] 2 V2.heap.size rfl (by simp [maxLen]) (Nat.le_trans hlow E0.out.size))
    have hg0 : V2.heap.size ≤ Y6x0.heap.size := Nat.le_trans hlow E0.out.size
    generalize Y6x0.alloc (.cells #[Value.int .u8 (p : Int), .int .u8 4] 5) = Y6x1 at O hy ⊢
    generalize Y6x0.heap.size = g0 at O hg0 ⊢
    replace O := lh O
    have E1 := lh (E0.out.trans (hy.mono (Nat.le_trans hlow E0.out.size)))
    have C1 := lh E1.out
    clear hy E0
    refine hK.out _ _ C1.out (fun _ => ?_)
    clear hK KK
    clear C1
    try simp only [Act.put, tS1, tS2, tS3]
    refine tkO 6 (fun KK hK => ?_)
    go_simp
    refine (CB1.out Y6x1).mono ?_
    rintro e Y6x2 ⟨z1, rfl, hz1, hy⟩
    replace O := lh (row_under O.out hy)
    have E2 := lh (E1.out.trans (hy.mono (Nat.le_trans hlow E1.out.size)))
    have C2 := lh E2.out
    have Z1 := lh (Rd.own hz1)
    obtain ⟨gz1, cz1, rfl, -, -, -, -⟩ := own_at hz1 (by omega)
    clear hz1
    clear hy E1
    refine hK.out _ _ C2.out (fun _ => ?_)
    clear hK KK
    clear C2
    try simp only [Act.put, tS1, tS2, tS3]
    refine tkO 7 (fun KK hK => ?_)
    rw [if_pos (by rfl)]
    refine wp_app (.tmp 14) (.tmp 17) rfl (V2.heap.size) (.slice (some ⟨g0, 0, none⟩) 2 2) 2 [p, 4] rfl O.out (some ⟨gz1, 0, none⟩) (m1) (cz1) B1 rfl (Z1.out) (by intro e; cases e) (by omega) (Nat.le_trans hlow E2.out.size) ?_
    intro vx Y6x3 oz gz
    clear Z1
    replace O := lh oz
    clear oz
    have E3 := lh (E2.out.grown gz (Nat.le_trans hlow E2.out.size) (fun k e => by cases e; first | exact Nat.le_refl _ | omega))
    obtain ⟨g1, k1, rfl, hk1, hk1m, hg1, hg1u⟩ := own_at O.out (by omega)
    clear gz E2
    refine hK.out _ _ E3.out (fun _ => ?_)
    clear hK KK
    try simp only [Act.put, tS1, tS2, tS3]
    refine tkO 10 (fun KK hK => ?_)
    go_simp
    refine (CB2.out Y6x3).mono ?_
    rintro e Y6x4 ⟨z2, rfl, hz2, hy⟩
    replace O := lh (row_under O.out hy)
    have E4 := lh (E3.out.trans (hy.mono (Nat.le_trans hlow E3.out.size)))
    have C4 := lh E4.out
    have Z2 := lh (Rd.own hz2)
    obtain ⟨gz2, cz2, rfl, -, -, -, -⟩ := own_at hz2 (by omega)
    clear hz2
    clear hy E3
    refine hK.out _ _ C4.out (fun _ => ?_)
    clear hK KK
    clear C4
    try simp only [Act.put, tS1, tS2, tS3]
    refine tkO 11 (fun KK hK => ?_)
    rw [if_pos (by rfl)]
    refine wp_app (.tmp 18) (.tmp 21) rfl (V2.heap.size) (.slice (some ⟨g1, 0, none⟩) (2 + m1) k1) (2 + m1) ([p, 4] ++ B1) rfl O.out (some ⟨gz2, 0, none⟩) (m2) (cz2) B2 rfl (Z2.out) (by intro e; cases e) (by omega) (Nat.le_trans hlow E4.out.size) ?_
    intro vx Y6x5 oz gz
    clear Z2
    replace O := lh oz
    clear oz
    have E5 := lh (E4.out.grown gz (Nat.le_trans hlow E4.out.size) (fun k e => by cases e; first | exact Nat.le_refl _ | omega))
    obtain ⟨g2, k2, rfl, hk2, hk2m, hg2, hg2u⟩ := own_at O.out (by omega)
    clear gz E4
    refine hK.out _ _ E5.out (fun _ => ?_)
    clear hK KK
    try simp only [Act.put, tS1, tS2, tS3]
    refine tkA 12 (?_) ?_ E5.out ?_
    rotate_left
    · (intro w1 hS; go_simp; try with_reducible rfl)
    simp only [Act.put, tS1, tS2, tS3]
    refine wpAnyH_done (by kernel_rfl) ?_ _
    have L := lh E5.out
    have P := lh O.out
    clear E5 O
    have NC := lh (N.out.below L.out qN)
    have c35 := (NC.out.cell 35).trans G35.out
    have c36 := (NC.out.cell 36).trans G36.out
    have hal := (Below.refl Y6x5.heap.size Y6x5).alloc (Nat.le_refl _) (.cells #[Value.int .u8 (d1 : Int), .int .u8 (d2 : Int), .int .u8 (d3 : Int), .int .u8 (d4 : Int)] 5)
    have RL := lh (show Rd (Y6x5.alloc (.cells #[Value.int .u8 (d1 : Int), .int .u8 (d2 : Int), .int .u8 (d3 : Int), .int .u8 (d4 : Int)] 5)) (.slice (some ⟨Y6x5.heap.size, 0, none⟩) 4 4) (nus .u8 [d1, d2, d3, d4]) from rd_lit Y6x5 .u8 5 [d1, d2, d3, d4] 4 (0, 0) rfl (by simp [maxLen]))
    replace P := lh (row_under P.out hal)
    replace L := lh (L.out.trans (hal.mono (Nat.le_trans hlow L.out.size)))
    clear hal
    go_wp2_with (at_builtin; refine wpList_app rfl (.tmp 23) (.tmp 38) rfl (V2.heap.size) _ (2 + m1 + m2) ([p, 4] ++ B1 ++ B2) rfl P.out (some ⟨Y6x5.heap.size, 0, none⟩) 4 4 [d1, d2, d3, d4] rfl (RL.out) (by intro e; cases e) ?ap4b ?ap4c ?ap4d)
    case ap4b => omega
    case ap4c => first | exact Nat.le_trans hlow L.out.size | (have q := Nat.le_trans hlow L.out.size; simp only [World.size_alloc] at q; exact q)
    intro vx X9 oz gz
    replace L := lh (L.out.grown gz (Nat.le_trans hlow L.out.size) (fun k e => by first | exact (P.out.lt k e).1 | (cases e; first | exact Nat.le_refl _ | omega)))
    go_wp2
    go_ret
    have q := Rd.own oz
    refine ⟨vx, rfl, ?_, K.out.trans (L.out.mono qK)⟩
    rw [HB.out]
    simpa using q
  · go_simp
    refine (CB1.out Y6x0).mono ?_
    rintro e Y6x1 ⟨z1, rfl, hz1, hy⟩
    have E1 := lh (E0.out.trans (hy.mono (Nat.le_trans hlow E0.out.size)))
    have C1 := lh E1.out
    have Z1 := lh (Rd.own hz1)
    obtain ⟨gz1, cz1, rfl, -, -, -, -⟩ := own_at hz1 (by omega)
    clear hz1
    clear hy E0
    refine hK.out _ _ C1.out (fun _ => ?_)
    clear hK KK
    clear C1
    try simp only [Act.put, tS1, tS2, tS3]
    refine tkO 3 (fun KK hK => ?_)
    go_simp
    have hy := (Below.refl Y6x1.heap.size Y6x1).alloc (Nat.le_refl _) (.cells #[Value.int .u8 (p : Int), .int .u8 4] 5)
    have O := (show (Y6x1.alloc (.cells #[Value.int .u8 (p : Int), .int .u8 4] 5)).ownsRow V2.heap.size 5 1 (.slice (some ⟨Y6x1.heap.size, 0, none⟩) 2 2) 2 (nus .u8 [p, 4]) from own_lit Y6x1 .u8 5 [p, 4] 2 V2.heap.size rfl (by simp [maxLen]) (Nat.le_trans hlow E1.out.size))
    have hg0 : V2.heap.size ≤ Y6x1.heap.size := Nat.le_trans hlow E1.out.size
    generalize Y6x1.alloc (.cells #[Value.int .u8 (p : Int), .int .u8 4] 5) = Y6x2 at O hy ⊢
    generalize Y6x1.heap.size = g0 at O hg0 ⊢
    replace O := lh O
    replace Z1 := lh (Z1.out.below hy)
    have E2 := lh (E1.out.trans (hy.mono (Nat.le_trans hlow E1.out.size)))
    have C2 := lh E2.out
    clear hy E1
    refine hK.out _ _ C2.out (fun _ => ?_)
    clear hK KK
    clear C2
    try simp only [Act.put, tS1, tS2, tS3]
    refine tkO 7 (fun KK hK => ?_)
    rw [if_pos (by rfl)]
    refine wp_app (.tmp 14) (.tmp 17) rfl (V2.heap.size) (.slice (some ⟨g0, 0, none⟩) 2 2) 2 [p, 4] rfl O.out (some ⟨gz1, 0, none⟩) (m1) (cz1) B1 rfl (Z1.out) (by intro e; cases e) (by omega) (Nat.le_trans hlow E2.out.size) ?_
    intro vx Y6x3 oz gz
    clear Z1
    replace O := lh oz
    clear oz
    have E3 := lh (E2.out.grown gz (Nat.le_trans hlow E2.out.size) (fun k e => by cases e; first | exact Nat.le_refl _ | omega))
    obtain ⟨g1, k1, rfl, hk1, hk1m, hg1, hg1u⟩ := own_at O.out (by omega)
    clear gz E2
    refine hK.out _ _ E3.out (fun _ => ?_)
    clear hK KK
    try simp only [Act.put, tS1, tS2, tS3]
    refine tkO 10 (fun KK hK => ?_)
    go_simp
    refine (CB2.out Y6x3).mono ?_
    rintro e Y6x4 ⟨z2, rfl, hz2, hy⟩
    replace O := lh (row_under O.out hy)
    have E4 := lh (E3.out.trans (hy.mono (Nat.le_trans hlow E3.out.size)))
    have C4 := lh E4.out
    have Z2 := lh (Rd.own hz2)
    obtain ⟨gz2, cz2, rfl, -, -, -, -⟩ := own_at hz2 (by omega)
    clear hz2
    clear hy E3
    refine hK.out _ _ C4.out (fun _ => ?_)
    clear hK KK
    clear C4
    try simp only [Act.put, tS1, tS2, tS3]
    refine tkO 11 (fun KK hK => ?_)
    rw [if_pos (by rfl)]
    refine wp_app (.tmp 18) (.tmp 21) rfl (V2.heap.size) (.slice (some ⟨g1, 0, none⟩) (2 + m1) k1) (2 + m1) ([p, 4] ++ B1) rfl O.out (some ⟨gz2, 0, none⟩) (m2) (cz2) B2 rfl (Z2.out) (by intro e; cases e) (by omega) (Nat.le_trans hlow E4.out.size) ?_
    intro vx Y6x5 oz gz
    clear Z2
    replace O := lh oz
    clear oz
    have E5 := lh (E4.out.grown gz (Nat.le_trans hlow E4.out.size) (fun k e => by cases e; first | exact Nat.le_refl _ | omega))
    obtain ⟨g2, k2, rfl, hk2, hk2m, hg2, hg2u⟩ := own_at O.out (by omega)
    clear gz E4
    refine hK.out _ _ E5.out (fun _ => ?_)
    clear hK KK
    try simp only [Act.put, tS1, tS2, tS3]
    refine tkA 12 (?_) ?_ E5.out ?_
    rotate_left
    · (intro w1 hS; go_simp; try with_reducible rfl)
    simp only [Act.put, tS1, tS2, tS3]
    refine wpAnyH_done (by kernel_rfl) ?_ _
    have L := lh E5.out
    have P := lh O.out
    clear E5 O
    have NC := lh (N.out.below L.out qN)
    have c35 := (NC.out.cell 35).trans G35.out
    have c36 := (NC.out.cell 36).trans G36.out
    have hal := (Below.refl Y6x5.heap.size Y6x5).alloc (Nat.le_refl _) (.cells #[Value.int .u8 (d1 : Int), .int .u8 (d2 : Int), .int .u8 (d3 : Int), .int .u8 (d4 : Int)] 5)
    have RL := lh (show Rd (Y6x5.alloc (.cells #[Value.int .u8 (d1 : Int), .int .u8 (d2 : Int), .int .u8 (d3 : Int), .int .u8 (d4 : Int)] 5)) (.slice (some ⟨Y6x5.heap.size, 0, none⟩) 4 4) (nus .u8 [d1, d2, d3, d4]) from rd_lit Y6x5 .u8 5 [d1, d2, d3, d4] 4 (0, 0) rfl (by simp [maxLen]))
    replace P := lh (row_under P.out hal)
    replace L := lh (L.out.trans (hal.mono (Nat.le_trans hlow L.out.size)))
    clear hal
    go_wp2_with (at_builtin; refine wpList_app rfl (.tmp 23) (.tmp 38) rfl (V2.heap.size) _ (2 + m1 + m2) ([p, 4] ++ B1 ++ B2) rfl P.out (some ⟨Y6x5.heap.size, 0, none⟩) 4 4 [d1, d2, d3, d4] rfl (RL.out) (by intro e; cases e) ?ap5b ?ap5c ?ap5d)
    case ap5b => omega
    case ap5c => first | exact Nat.le_trans hlow L.out.size | (have q := Nat.le_trans hlow L.out.size; simp only [World.size_alloc] at q; exact q)
    intro vx X9 oz gz
    replace L := lh (L.out.grown gz (Nat.le_trans hlow L.out.size) (fun k e => by first | exact (P.out.lt k e).1 | (cases e; first | exact Nat.le_refl _ | omega)))
    go_wp2
    go_ret
    have q := Rd.own oz
    refine ⟨vx, rfl, ?_, K.out.trans (L.out.mono qK)⟩
    rw [HB.out]
    simpa using q
set_option maxRecDepth 100000 in
set_option maxHeartbeats 4000000 in
theorem rbytes_six (k : Fl) (hk : k.Fit) (hv : vK k = true) (h6 : k.sv = true) (w : World) :
    Calls Try.prog 59 #[.agg k.cs] w fun e w' => ∃ x, e = .returned x ∧ Rd w' x (nus .u8 (bK k)) ∧ Below w.heap.size w w' := by
  have K := lh (Below.refl w.heap.size w)
  have CV := lh (fun W => rvalid_any k hk W)
  rw [hv] at CV
  rw [bK_yes hv]
  have CB1 := lh (fun W => rbytes_own k.sv k.S hk.lS W)
  have CB2 := lh (fun W => rbytes_own k.dv k.D hk.lD W)
  obtain ⟨n1a, n1b⟩ := bytesA_n k.sv k.S hk.lS
  obtain ⟨n2a, n2b⟩ := bytesA_n k.dv k.D hk.lD
  have hsp := hk.sp
  have hdp := hk.dp
  have HB : Hid (bR k = [k.p, 6] ++ bytesA k.sv k.S ++ bytesA k.dv k.D ++ [k.sp / 256, k.sp % 256, k.dp / 256, k.dp % 256]) := by show _ = _; unfold bR; rw [bg2 _ hsp, bg2 _ hdp, h6]; simp
  obtain ⟨a0, a1, a18, a35, a36⟩ := fl_get k hk
  have G0 := lh a0
  have G1 := lh a1
  have G18 := lh a18
  have G35 := lh a35
  have G36 := lh a36
  have KP1 := lh (fl_src k)
  have KP2 := lh (fl_dst k hk)
  have IS := lh (fl_is k hk)
  have ID := lh (fl_id k hk)
  have IK := lh (fl_ik k hk)
  clear a0 a1 a18 a35 a36
  unfold adr at CB1 CB2
  generalize bR k = BR at *
  generalize bytesA k.sv k.S = B1 at *
  generalize bytesA k.dv k.D = B2 at *
  generalize k.cs = kc at *
  generalize cellsA k.sv k.S = S at *
  generalize cellsA k.dv k.D = D at *
  generalize k.p = p at *
  generalize k.sv = sv at *
  generalize k.dv = dv at *
  generalize k.sp = sp at *
  generalize k.dp = dp at *
  clear hk hv
  subst h6
  obtain ⟨m1, hm1⟩ : ∃ m, m = B1.length := ⟨_, rfl⟩
  obtain ⟨m2, hm2⟩ : ∃ m, m = B2.length := ⟨_, rfl⟩
  rw [← hm1] at CB1 n1a n1b
  rw [← hm2] at CB2 n2a n2b
  have HM1 := lh hm1
  have HM2 := lh hm2
  clear hm1 hm2
  obtain ⟨d1, hd1⟩ : ∃ d, d = sp / 256 := ⟨_, rfl⟩
  obtain ⟨d2, hd2⟩ : ∃ d, d = sp % 256 := ⟨_, rfl⟩
  obtain ⟨d3, hd3⟩ : ∃ d, d = dp / 256 := ⟨_, rfl⟩
  obtain ⟨d4, hd4⟩ : ∃ d, d = dp % 256 := ⟨_, rfl⟩
  have hw1 : IntKind.u8.wrap ((sp : Int) / 256) = (d1 : Int) := by rw [IntKind.wrap_u8]; omega
  have hw2 : IntKind.u8.wrap (sp : Int) = (d2 : Int) := by rw [IntKind.wrap_u8]; omega
  have hw3 : IntKind.u8.wrap ((dp : Int) / 256) = (d3 : Int) := by rw [IntKind.wrap_u8]; omega
  have hw4 : IntKind.u8.wrap (dp : Int) = (d4 : Int) := by rw [IntKind.wrap_u8]; omega
  rw [← hd1, ← hd2, ← hd3, ← hd4] at HB
  clear hd1 hd2 hd3 hd4 hsp hdp
  go_enter Try.func59, Try.ntmps59
  have hal := (Below.refl w.heap.size w).alloc (Nat.le_refl _) (.cells kc 42)
  replace K := lh (K.out.trans (hal.mono K.out.size))
  have N := lh (Blk.new w 42 kc)
  clear hal
  have L6 : (loadVar 42 ⟨w.heap.size, 0, none⟩).run Try.prog (w.alloc (.cells kc 42)) = .ok (.agg kc) (w.alloc (.cells kc 42)) := run_blk_load (P := Try.prog) 42 (w.heap.size) _ N.out Try.underlying42 rfl IK.out
  replace L6 := lh L6
  go_wp2_with (((with_reducible refine wpList_load_want (op := ⟨some 5, .load 42 (.tmp 1), _, _, _, _⟩) ?wg6 42 (.tmp 1) ?wo6 ⟨w.heap.size, 0, none⟩ ?wx6 (.agg kc) L6.out ?_); (case wg6 => rfl); (case wo6 => rfl); (case wx6 => rfl)))
  clear L6
  have hzV1 : Hid ((w.alloc (.cells kc 42)).heap.size = w.heap.size + 1) := by show _ = _; simp only [World.size_alloc]
  generalize (w.alloc (.cells kc 42)) = V1 at *
  refine (CV.out V1).mono ?_
  rintro e V2 ⟨rfl, hy⟩
  replace K := lh (K.out.trans (hy.mono K.out.size))
  replace N := lh (N.out.below hy N.out.lt)
  clear hy
  have L7 := (N.out.cell 1).trans G1.out
  go_wp2_with fail
  clear L7
  have hlow : V2.heap.size ≤ V2.heap.size := Nat.le_refl _
  have qK := K.out.size
  have qN := N.out.lt
  refine wp_region_held (S := (fun w' : World => Below (V2.heap.size) V2 w')) (by kernel_rfl) ?_
  change wpAnyH _ _ _ _ _ _ _ _ V2.drew
  have hy : Below V2.heap.size V2 V2.drew := (Below.refl _ _).drew
  have hE0 : Below (V2.heap.size) V2 V2.drew := (Below.refl _ _).drew
  clear hy
  generalize V2.drew = Y6x0 at hE0  ⊢
  have E0 := lh hE0
  clear hE0
  refine tkA 0 (?_) ?_ E0.out ?_
  rotate_left
  · (intro w1 hS; go_simp; try with_reducible rfl)
  simp only [Act.put, tS1, tS2, tS3]
  refine tkA 1 (?_) ?_ E0.out ?_
  rotate_left
  · (intro w1 hS; have hW := hS; have q := ((N.out.below hW (by omega)).cell 0).trans G0.out; clear hW hS; go_simp; try with_reducible rfl)
  simp only [Act.put, tS1, tS2, tS3]
  refine tkA 2 (?_) ?_ E0.out ?_
  rotate_left
  · (intro w1 hS; go_simp; try with_reducible rfl)
  simp only [Act.put, tS1, tS2, tS3]
  refine tkA 4 (?_) ?_ E0.out ?_
  rotate_left
  · (intro w1 hS; go_simp; try with_reducible rfl)
  simp only [Act.put, tS1, tS2, tS3]
  refine tkA 5 (.agg S) ?_ E0.out ?_
  · (intro w1 hS; have hW := hS; exact exec_load 26 (.tmp 15) rfl _ rfl _ (by have h := run_part_load (P := Try.prog) 26 1 S.toList _ (N.out.below hW (by omega)) KP1.out Try.underlying26 rfl IS.out; rwa [Array.toArray_toList] at h))
  simp only [Act.put, tS1, tS2, tS3]
  refine tkA 8 (?_) ?_ E0.out ?_
  rotate_left
  · (intro w1 hS; go_simp; try with_reducible rfl)
  simp only [Act.put, tS1, tS2, tS3]
  refine tkA 9 (.agg D) ?_ E0.out ?_
  · (intro w1 hS; have hW := hS; exact exec_load 26 (.tmp 19) rfl _ rfl _ (by have h := run_part_load (P := Try.prog) 26 18 D.toList _ (N.out.below hW (by omega)) KP2.out Try.underlying26 rfl ID.out; rwa [Array.toArray_toList] at h))
  simp only [Act.put, tS1, tS2, tS3]
  refine wpAnyH_ready (rs := [3, 6]) (by kernel_rfl) (by simp) ?_
  refine AllReadyH.cons (o := { dst := some 14, op := Op.buildSlice 124 2 #[(0, Operand.tmp 12), (1, Operand.tmp 13)], type := 124, pos := "table.go:34", after := #[{ on := 1, ground := Ground.data }, { on := 2, ground := Ground.data }], guard := none }) rfl (fun KK hK => ?_) (AllReadyH.cons (o := { dst := some 17, op := Op.call { callee := Callee.value (Operand.func 77), args := #[Operand.tmp 16], argTypes := #[26] }, type := 124, pos := "table.go:34", after := #[{ on := 5, ground := Ground.data }], guard := none }) rfl (fun KK hK => ?_) AllReadyH.nil)
  · go_simp
    have hy := (Below.refl Y6x0.heap.size Y6x0).alloc (Nat.le_refl _) (.cells #[Value.int .u8 (p : Int), .int .u8 6] 5)
    have O := (show (Y6x0.alloc (.cells #[Value.int .u8 (p : Int), .int .u8 6] 5)).ownsRow V2.heap.size 5 1 (.slice (some ⟨Y6x0.heap.size, 0, none⟩) 2 2) 2 (nus .u8 [p, 6]) from own_lit Y6x0 .u8 5 [p, 6] 2 V2.heap.size rfl (by simp [maxLen]) (Nat.le_trans hlow E0.out.size))
    have hg0 : V2.heap.size ≤ Y6x0.heap.size := Nat.le_trans hlow E0.out.size
    generalize Y6x0.alloc (.cells #[Value.int .u8 (p : Int), .int .u8 6] 5) = Y6x1 at O hy ⊢
    generalize Y6x0.heap.size = g0 at O hg0 ⊢
    replace O := lh O
    have E1 := lh (E0.out.trans (hy.mono (Nat.le_trans hlow E0.out.size)))
    have C1 := lh E1.out
    clear hy E0
    refine hK.out _ _ C1.out (fun _ => ?_)
    clear hK KK
    clear C1
    try simp only [Act.put, tS1, tS2, tS3]
    refine tkO 6 (fun KK hK => ?_)
    go_simp
    refine (CB1.out Y6x1).mono ?_
    rintro e Y6x2 ⟨z1, rfl, hz1, hy⟩
    replace O := lh (row_under O.out hy)
    have E2 := lh (E1.out.trans (hy.mono (Nat.le_trans hlow E1.out.size)))
    have C2 := lh E2.out
    have Z1 := lh (Rd.own hz1)
    obtain ⟨gz1, cz1, rfl, -, -, -, -⟩ := own_at hz1 (by omega)
    clear hz1
    clear hy E1
    refine hK.out _ _ C2.out (fun _ => ?_)
    clear hK KK
    clear C2
    try simp only [Act.put, tS1, tS2, tS3]
    refine tkO 7 (fun KK hK => ?_)
    rw [if_pos (by rfl)]
    refine wp_app (.tmp 14) (.tmp 17) rfl (V2.heap.size) (.slice (some ⟨g0, 0, none⟩) 2 2) 2 [p, 6] rfl O.out (some ⟨gz1, 0, none⟩) (m1) (cz1) B1 rfl (Z1.out) (by intro e; cases e) (by omega) (Nat.le_trans hlow E2.out.size) ?_
    intro vx Y6x3 oz gz
    clear Z1
    replace O := lh oz
    clear oz
    have E3 := lh (E2.out.grown gz (Nat.le_trans hlow E2.out.size) (fun k e => by cases e; first | exact Nat.le_refl _ | omega))
    obtain ⟨g1, k1, rfl, hk1, hk1m, hg1, hg1u⟩ := own_at O.out (by omega)
    clear gz E2
    refine hK.out _ _ E3.out (fun _ => ?_)
    clear hK KK
    try simp only [Act.put, tS1, tS2, tS3]
    refine tkO 10 (fun KK hK => ?_)
    go_simp
    refine (CB2.out Y6x3).mono ?_
    rintro e Y6x4 ⟨z2, rfl, hz2, hy⟩
    replace O := lh (row_under O.out hy)
    have E4 := lh (E3.out.trans (hy.mono (Nat.le_trans hlow E3.out.size)))
    have C4 := lh E4.out
    have Z2 := lh (Rd.own hz2)
    obtain ⟨gz2, cz2, rfl, -, -, -, -⟩ := own_at hz2 (by omega)
    clear hz2
    clear hy E3
    refine hK.out _ _ C4.out (fun _ => ?_)
    clear hK KK
    clear C4
    try simp only [Act.put, tS1, tS2, tS3]
    refine tkO 11 (fun KK hK => ?_)
    rw [if_pos (by rfl)]
    refine wp_app (.tmp 18) (.tmp 21) rfl (V2.heap.size) (.slice (some ⟨g1, 0, none⟩) (2 + m1) k1) (2 + m1) ([p, 6] ++ B1) rfl O.out (some ⟨gz2, 0, none⟩) (m2) (cz2) B2 rfl (Z2.out) (by intro e; cases e) (by omega) (Nat.le_trans hlow E4.out.size) ?_
    intro vx Y6x5 oz gz
    clear Z2
    replace O := lh oz
    clear oz
    have E5 := lh (E4.out.grown gz (Nat.le_trans hlow E4.out.size) (fun k e => by cases e; first | exact Nat.le_refl _ | omega))
    obtain ⟨g2, k2, rfl, hk2, hk2m, hg2, hg2u⟩ := own_at O.out (by omega)
    clear gz E4
    refine hK.out _ _ E5.out (fun _ => ?_)
    clear hK KK
    try simp only [Act.put, tS1, tS2, tS3]
    refine tkA 12 (?_) ?_ E5.out ?_
    rotate_left
    · (intro w1 hS; go_simp; try with_reducible rfl)
    simp only [Act.put, tS1, tS2, tS3]
    refine wpAnyH_done (by kernel_rfl) ?_ _
    have L := lh E5.out
    have P := lh O.out
    clear E5 O
    have NC := lh (N.out.below L.out qN)
    have c35 := (NC.out.cell 35).trans G35.out
    have c36 := (NC.out.cell 36).trans G36.out
    have hal := (Below.refl Y6x5.heap.size Y6x5).alloc (Nat.le_refl _) (.cells #[Value.int .u8 (d1 : Int), .int .u8 (d2 : Int), .int .u8 (d3 : Int), .int .u8 (d4 : Int)] 5)
    have RL := lh (show Rd (Y6x5.alloc (.cells #[Value.int .u8 (d1 : Int), .int .u8 (d2 : Int), .int .u8 (d3 : Int), .int .u8 (d4 : Int)] 5)) (.slice (some ⟨Y6x5.heap.size, 0, none⟩) 4 4) (nus .u8 [d1, d2, d3, d4]) from rd_lit Y6x5 .u8 5 [d1, d2, d3, d4] 4 (0, 0) rfl (by simp [maxLen]))
    replace P := lh (row_under P.out hal)
    replace L := lh (L.out.trans (hal.mono (Nat.le_trans hlow L.out.size)))
    clear hal
    go_wp2_with (at_builtin; refine wpList_app rfl (.tmp 23) (.tmp 38) rfl (V2.heap.size) _ (2 + m1 + m2) ([p, 6] ++ B1 ++ B2) rfl P.out (some ⟨Y6x5.heap.size, 0, none⟩) 4 4 [d1, d2, d3, d4] rfl (RL.out) (by intro e; cases e) ?ap8b ?ap8c ?ap8d)
    case ap8b => omega
    case ap8c => first | exact Nat.le_trans hlow L.out.size | (have q := Nat.le_trans hlow L.out.size; simp only [World.size_alloc] at q; exact q)
    intro vx X9 oz gz
    replace L := lh (L.out.grown gz (Nat.le_trans hlow L.out.size) (fun k e => by first | exact (P.out.lt k e).1 | (cases e; first | exact Nat.le_refl _ | omega)))
    go_wp2
    go_ret
    have q := Rd.own oz
    refine ⟨vx, rfl, ?_, K.out.trans (L.out.mono qK)⟩
    rw [HB.out]
    simpa using q
  · go_simp
    refine (CB1.out Y6x0).mono ?_
    rintro e Y6x1 ⟨z1, rfl, hz1, hy⟩
    have E1 := lh (E0.out.trans (hy.mono (Nat.le_trans hlow E0.out.size)))
    have C1 := lh E1.out
    have Z1 := lh (Rd.own hz1)
    obtain ⟨gz1, cz1, rfl, -, -, -, -⟩ := own_at hz1 (by omega)
    clear hz1
    clear hy E0
    refine hK.out _ _ C1.out (fun _ => ?_)
    clear hK KK
    clear C1
    try simp only [Act.put, tS1, tS2, tS3]
    refine tkO 3 (fun KK hK => ?_)
    go_simp
    have hy := (Below.refl Y6x1.heap.size Y6x1).alloc (Nat.le_refl _) (.cells #[Value.int .u8 (p : Int), .int .u8 6] 5)
    have O := (show (Y6x1.alloc (.cells #[Value.int .u8 (p : Int), .int .u8 6] 5)).ownsRow V2.heap.size 5 1 (.slice (some ⟨Y6x1.heap.size, 0, none⟩) 2 2) 2 (nus .u8 [p, 6]) from own_lit Y6x1 .u8 5 [p, 6] 2 V2.heap.size rfl (by simp [maxLen]) (Nat.le_trans hlow E1.out.size))
    have hg0 : V2.heap.size ≤ Y6x1.heap.size := Nat.le_trans hlow E1.out.size
    generalize Y6x1.alloc (.cells #[Value.int .u8 (p : Int), .int .u8 6] 5) = Y6x2 at O hy ⊢
    generalize Y6x1.heap.size = g0 at O hg0 ⊢
    replace O := lh O
    replace Z1 := lh (Z1.out.below hy)
    have E2 := lh (E1.out.trans (hy.mono (Nat.le_trans hlow E1.out.size)))
    have C2 := lh E2.out
    clear hy E1
    refine hK.out _ _ C2.out (fun _ => ?_)
    clear hK KK
    clear C2
    try simp only [Act.put, tS1, tS2, tS3]
    refine tkO 7 (fun KK hK => ?_)
    rw [if_pos (by rfl)]
    refine wp_app (.tmp 14) (.tmp 17) rfl (V2.heap.size) (.slice (some ⟨g0, 0, none⟩) 2 2) 2 [p, 6] rfl O.out (some ⟨gz1, 0, none⟩) (m1) (cz1) B1 rfl (Z1.out) (by intro e; cases e) (by omega) (Nat.le_trans hlow E2.out.size) ?_
    intro vx Y6x3 oz gz
    clear Z1
    replace O := lh oz
    clear oz
    have E3 := lh (E2.out.grown gz (Nat.le_trans hlow E2.out.size) (fun k e => by cases e; first | exact Nat.le_refl _ | omega))
    obtain ⟨g1, k1, rfl, hk1, hk1m, hg1, hg1u⟩ := own_at O.out (by omega)
    clear gz E2
    refine hK.out _ _ E3.out (fun _ => ?_)
    clear hK KK
    try simp only [Act.put, tS1, tS2, tS3]
    refine tkO 10 (fun KK hK => ?_)
    go_simp
    refine (CB2.out Y6x3).mono ?_
    rintro e Y6x4 ⟨z2, rfl, hz2, hy⟩
    replace O := lh (row_under O.out hy)
    have E4 := lh (E3.out.trans (hy.mono (Nat.le_trans hlow E3.out.size)))
    have C4 := lh E4.out
    have Z2 := lh (Rd.own hz2)
    obtain ⟨gz2, cz2, rfl, -, -, -, -⟩ := own_at hz2 (by omega)
    clear hz2
    clear hy E3
    refine hK.out _ _ C4.out (fun _ => ?_)
    clear hK KK
    clear C4
    try simp only [Act.put, tS1, tS2, tS3]
    refine tkO 11 (fun KK hK => ?_)
    rw [if_pos (by rfl)]
    refine wp_app (.tmp 18) (.tmp 21) rfl (V2.heap.size) (.slice (some ⟨g1, 0, none⟩) (2 + m1) k1) (2 + m1) ([p, 6] ++ B1) rfl O.out (some ⟨gz2, 0, none⟩) (m2) (cz2) B2 rfl (Z2.out) (by intro e; cases e) (by omega) (Nat.le_trans hlow E4.out.size) ?_
    intro vx Y6x5 oz gz
    clear Z2
    replace O := lh oz
    clear oz
    have E5 := lh (E4.out.grown gz (Nat.le_trans hlow E4.out.size) (fun k e => by cases e; first | exact Nat.le_refl _ | omega))
    obtain ⟨g2, k2, rfl, hk2, hk2m, hg2, hg2u⟩ := own_at O.out (by omega)
    clear gz E4
    refine hK.out _ _ E5.out (fun _ => ?_)
    clear hK KK
    try simp only [Act.put, tS1, tS2, tS3]
    refine tkA 12 (?_) ?_ E5.out ?_
    rotate_left
    · (intro w1 hS; go_simp; try with_reducible rfl)
    simp only [Act.put, tS1, tS2, tS3]
    refine wpAnyH_done (by kernel_rfl) ?_ _
    have L := lh E5.out
    have P := lh O.out
    clear E5 O
    have NC := lh (N.out.below L.out qN)
    have c35 := (NC.out.cell 35).trans G35.out
    have c36 := (NC.out.cell 36).trans G36.out
    have hal := (Below.refl Y6x5.heap.size Y6x5).alloc (Nat.le_refl _) (.cells #[Value.int .u8 (d1 : Int), .int .u8 (d2 : Int), .int .u8 (d3 : Int), .int .u8 (d4 : Int)] 5)
    have RL := lh (show Rd (Y6x5.alloc (.cells #[Value.int .u8 (d1 : Int), .int .u8 (d2 : Int), .int .u8 (d3 : Int), .int .u8 (d4 : Int)] 5)) (.slice (some ⟨Y6x5.heap.size, 0, none⟩) 4 4) (nus .u8 [d1, d2, d3, d4]) from rd_lit Y6x5 .u8 5 [d1, d2, d3, d4] 4 (0, 0) rfl (by simp [maxLen]))
    replace P := lh (row_under P.out hal)
    replace L := lh (L.out.trans (hal.mono (Nat.le_trans hlow L.out.size)))
    clear hal
    go_wp2_with (at_builtin; refine wpList_app rfl (.tmp 23) (.tmp 38) rfl (V2.heap.size) _ (2 + m1 + m2) ([p, 6] ++ B1 ++ B2) rfl P.out (some ⟨Y6x5.heap.size, 0, none⟩) 4 4 [d1, d2, d3, d4] rfl (RL.out) (by intro e; cases e) ?ap9b ?ap9c ?ap9d)
    case ap9b => omega
    case ap9c => first | exact Nat.le_trans hlow L.out.size | (have q := Nat.le_trans hlow L.out.size; simp only [World.size_alloc] at q; exact q)
    intro vx X9 oz gz
    replace L := lh (L.out.grown gz (Nat.le_trans hlow L.out.size) (fun k e => by first | exact (P.out.lt k e).1 | (cases e; first | exact Nat.le_refl _ | omega)))
    go_wp2
    go_ret
    have q := Rd.own oz
    refine ⟨vx, rfl, ?_, K.out.trans (L.out.mono qK)⟩
    rw [HB.out]
    simpa using q
set_option maxRecDepth 100000 in
theorem rbytes_any (k : Fl) (hk : k.Fit) (w : World) : Calls Try.prog 59 #[.agg k.cs] w fun e w' => ∃ x, e = .returned x ∧ Rd w' x (nus .u8 (bK k)) ∧ Below w.heap.size w w' := by
  cases hv : vK k with
  | false => exact rbytes_no k hk hv w
  | true =>
    cases h6 : k.sv with
    | false => exact rbytes_four k hk hv h6 w
    | true => exact rbytes_six k hk hv h6 w
end Go.Proofs.Ythldpnifodbheaa
