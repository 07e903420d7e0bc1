/- addr.Bytes, addr.From. -/
import Derived.Test.YtjcmidgeddhfoaaDoorP4
import Derived.Test.YtjcmidgeddhfoaaDoorRow
namespace Go.Proofs.YtjcmidgeddhfoaaDoor
open Go.RowKit Go.Lib

set_option maxHeartbeats 1000000 in
theorem bytes_six (b0 b1 b2 b3 b4 b5 b6 b7 b8 b9 b10 b11 b12 b13 b14 b15 : Nat) (w : World) :
    Calls Tryd.prog 11 #[.agg #[.bool true, .int .u8 (b0 : Int), .int .u8 (b1 : Int), .int .u8 (b2 : Int), .int .u8 (b3 : Int), .int .u8 (b4 : Int), .int .u8 (b5 : Int), .int .u8 (b6 : Int), .int .u8 (b7 : Int), .int .u8 (b8 : Int), .int .u8 (b9 : Int), .int .u8 (b10 : Int), .int .u8 (b11 : Int), .int .u8 (b12 : Int), .int .u8 (b13 : Int), .int .u8 (b14 : Int), .int .u8 (b15 : Int)]] w fun e w' => ∃ v, e = .returned v ∧ Rd w' v (nus .u8 [b0, b1, b2, b3, b4, b5, b6, b7, b8, b9, b10, b11, b12, b13, b14, b15]) ∧ Below w.heap.size w w' := by
  have hb := Blk.new w 24 #[.bool true, .int .u8 (b0 : Int), .int .u8 (b1 : Int), .int .u8 (b2 : Int), .int .u8 (b3 : Int), .int .u8 (b4 : Int), .int .u8 (b5 : Int), .int .u8 (b6 : Int), .int .u8 (b7 : Int), .int .u8 (b8 : Int), .int .u8 (b9 : Int), .int .u8 (b10 : Int), .int .u8 (b11 : Int), .int .u8 (b12 : Int), .int .u8 (b13 : Int), .int .u8 (b14 : Int), .int .u8 (b15 : Int)]
  have C := Lib.hid (Tryd.bytes_Clone_at ⟨w.heap.size, 1, none⟩ 16 16 ([b0, b1, b2, b3, b4, b5, b6, b7, b8, b9, b10, b11, b12, b13, b14, b15].map fun n : Nat => (n : Int)) (w.alloc (.cells #[.bool true, .int .u8 (b0 : Int), .int .u8 (b1 : Int), .int .u8 (b2 : Int), .int .u8 (b3 : Int), .int .u8 (b4 : Int), .int .u8 (b5 : Int), .int .u8 (b6 : Int), .int .u8 (b7 : Int), .int .u8 (b8 : Int), .int .u8 (b9 : Int), .int .u8 (b10 : Int), .int .u8 (b11 : Int), .int .u8 (b12 : Int), .int .u8 (b13 : Int), .int .u8 (b14 : Int), .int .u8 (b15 : Int)] 24)) rfl (by omega) (fun i hi => by
    rw [Addr.add_mid, hb.cell (1 + i)]
    have h : i = 0 ∨ i = 1 ∨ i = 2 ∨ i = 3 ∨ i = 4 ∨ i = 5 ∨ i = 6 ∨ i = 7 ∨ i = 8 ∨ i = 9 ∨ i = 10 ∨ i = 11 ∨ i = 12 ∨ i = 13 ∨ i = 14 ∨ i = 15 := by omega
    rcases h with rfl | rfl | rfl | rfl | rfl | rfl | rfl | rfl | rfl | rfl | rfl | rfl | rfl | rfl | rfl | rfl <;> rfl))
  clear hb
  go_enter Tryd.func11, Tryd.ntmps11
  go_wp2_with (go_at_call 20; refine C.out.mono ?_; rintro e w1 ⟨v, rfl, ho, hn, hb1⟩)
  go_ret
  refine ⟨v, rfl, Rd.own (by simpa [nus] using ho), ((Below.refl _ w).alloc (Nat.le_refl _) _).trans (hb1.mono (by simp))⟩

set_option maxHeartbeats 1000000 in
theorem bytes_four (b0 b1 b2 b3 b4 b5 b6 b7 b8 b9 b10 b11 b12 b13 b14 b15 : Nat) (w : World) :
    Calls Tryd.prog 11 #[.agg #[.bool false, .int .u8 (b0 : Int), .int .u8 (b1 : Int), .int .u8 (b2 : Int), .int .u8 (b3 : Int), .int .u8 (b4 : Int), .int .u8 (b5 : Int), .int .u8 (b6 : Int), .int .u8 (b7 : Int), .int .u8 (b8 : Int), .int .u8 (b9 : Int), .int .u8 (b10 : Int), .int .u8 (b11 : Int), .int .u8 (b12 : Int), .int .u8 (b13 : Int), .int .u8 (b14 : Int), .int .u8 (b15 : Int)]] w fun e w' => ∃ v, e = .returned v ∧ Rd w' v (nus .u8 [b0, b1, b2, b3]) ∧ Below w.heap.size w w' := by
  have hb := Blk.new w 24 #[.bool false, .int .u8 (b0 : Int), .int .u8 (b1 : Int), .int .u8 (b2 : Int), .int .u8 (b3 : Int), .int .u8 (b4 : Int), .int .u8 (b5 : Int), .int .u8 (b6 : Int), .int .u8 (b7 : Int), .int .u8 (b8 : Int), .int .u8 (b9 : Int), .int .u8 (b10 : Int), .int .u8 (b11 : Int), .int .u8 (b12 : Int), .int .u8 (b13 : Int), .int .u8 (b14 : Int), .int .u8 (b15 : Int)]
  have C := Lib.hid (Tryd.bytes_Clone_at ⟨w.heap.size, 1, none⟩ 4 16 ([b0, b1, b2, b3].map fun n : Nat => (n : Int)) (w.alloc (.cells #[.bool false, .int .u8 (b0 : Int), .int .u8 (b1 : Int), .int .u8 (b2 : Int), .int .u8 (b3 : Int), .int .u8 (b4 : Int), .int .u8 (b5 : Int), .int .u8 (b6 : Int), .int .u8 (b7 : Int), .int .u8 (b8 : Int), .int .u8 (b9 : Int), .int .u8 (b10 : Int), .int .u8 (b11 : Int), .int .u8 (b12 : Int), .int .u8 (b13 : Int), .int .u8 (b14 : Int), .int .u8 (b15 : Int)] 24)) rfl (by omega) (fun i hi => by
    rw [Addr.add_mid, hb.cell (1 + i)]
    have h : i = 0 ∨ i = 1 ∨ i = 2 ∨ i = 3 := by omega
    rcases h with rfl | rfl | rfl | rfl <;> rfl))
  clear hb
  go_enter Tryd.func11, Tryd.ntmps11
  go_wp2_with (go_at_call 20; refine C.out.mono ?_; rintro e w1 ⟨v, rfl, ho, hn, hb1⟩)
  go_ret
  refine ⟨v, rfl, Rd.own (by simpa [nus] using ho), ((Below.refl _ w).alloc (Nat.le_refl _) _).trans (hb1.mono (by simp))⟩

set_option maxHeartbeats 1000000 in
theorem from_bad (a : Option Addr) (len cap : Nat) (w : World) (h4 : len ≠ 4) (h16 : len ≠ 16) :
    Calls Tryd.prog 10 #[.slice a len cap] w fun e w' => e = .returned (.tuple #[adr false (List.replicate 16 0), .int .i64 2]) ∧ Below w.heap.size w w' := by
  have d4 : ((len : Int) != 4) = true := by rw [bne_iff_ne]; omega
  have d16 : ((len : Int) != 16) = true := by rw [bne_iff_ne]; omega
  go_enter Tryd.func10, Tryd.ntmps10
  go_wp2
  have hrun := run_blk_load (P := Tryd.prog) 24 w.heap.size _ (Blk.new w 24 (cellsA false (List.replicate 16 0))) Tryd.underlying24 rfl (by kernel_rfl)
  exact bodyPost_ret (results_cell_tmp 2 24 3 w.heap.size _ Tryd.results10 rfl hrun) rfl ⟨rfl, (Below.refl _ w).alloc (Nat.le_refl _) _⟩

theorem splice_at (v : Bool) (bs : List Nat) (_h : bs.length ≤ 16) : (splice (cellsA v (List.replicate 16 0)).toList 1 (nus .u8 bs)).toArray = cellsA v (bs ++ List.replicate (16 - bs.length) 0) := by
  have e : (cellsA v (List.replicate 16 0)).toList = Value.bool v :: List.replicate 16 (Value.int .u8 0) := by simp [cellsA]
  rw [e]
  unfold splice cellsA
  rw [nus_length, Nat.add_comm 1 bs.length, List.drop_succ_cons, List.drop_replicate, List.take_succ_cons, List.take_zero]
  simp [nus]
theorem info5_size : (Tryd.prog.info? 5).map (·.size) = some 1 := by kernel_rfl

set_option maxRecDepth 100000 in
set_option maxHeartbeats 2000000 in
theorem from_ok (va : Value) (v : Bool) (bs : List Nat) (w : World) (hr : Rd w va (nus .u8 bs)) (h : bs.length = 4 ∧ v = false ∨ bs.length = 16 ∧ v = true) :
    Calls Tryd.prog 10 #[va] w fun e w' => e = .returned (.tuple #[adr v (bs ++ List.replicate (16 - bs.length) 0), .int .i64 0]) ∧ Below w.heap.size w w' := by
  obtain ⟨a, cap, rfl, hlc, hc⟩ := rd_shape hr
  have hr1 := hr.below ((((Below.refl w.heap.size w).alloc (Nat.le_refl _) (.cells (cellsA false (List.replicate 16 0)) 24)).alloc (by simp) (.cells (cellsA v (List.replicate 16 0)) 24)))
  obtain ⟨b0, o0, rfl, hcell0⟩ := hr1.cells (by omega)
  clear hr hr1
  rcases h with ⟨h4, rfl⟩ | ⟨h16, rfl⟩
  · have d4 : (((4 : Nat) : Int) != 4) = false := by rfl
    have hcell := hcell0
    obtain ⟨cs, hcs⟩ : ∃ cs, cs = cellsA false (bs ++ List.replicate (16 - bs.length) 0) := ⟨_, rfl⟩
    have hz : cs.size = 17 := by rw [hcs, cellsA_size, List.length_append, List.length_replicate]; omega
    have HZ := Lib.hid (i24.trans (congrArg some hz.symm))
    have HZ2 := Lib.hid (hz.trans (cellsA_size false (List.replicate 16 0)).symm)
    have HAll := Lib.hid (show cs.all (·.oneCell') = true by rw [hcs]; exact cellsA_all _ _)
    have HSP := Lib.hid ((splice_at false bs (by omega)).trans hcs.symm)
    have HC := Lib.hid hcs
    have HL := Lib.hid h4
    have HO := Lib.hid ((Blk.new w 24 (cellsA false (List.replicate 16 0))).alloc (.cells (cellsA false (List.replicate 16 0)) 24))
    have HN := Lib.hid (show Blk ((w.alloc (.cells (cellsA false (List.replicate 16 0)) 24)).alloc (.cells (cellsA false (List.replicate 16 0)) 24)) (w.heap.size + 1) 24 (cellsA false (List.replicate 16 0)) by
      have := Blk.new (w.alloc (.cells (cellsA false (List.replicate 16 0)) 24)) 24 (cellsA false (List.replicate 16 0)); rw [World.size_alloc] at this; exact this)
    have HCE := Lib.hid hcell
    have HB := Lib.hid ((((Below.refl w.heap.size w).alloc (Nat.le_refl _) (.cells (cellsA false (List.replicate 16 0)) 24)).alloc (by simp) (.cells (cellsA false (List.replicate 16 0)) 24)))
    clear hcell hcell0 hz hcs
    rw [HL.out]
    clear d4
    have d4 : (((4 : Int)) != 4) = false := by rfl
    clear d4
    go_enter Tryd.func10, Tryd.ntmps10
    go_wp2_with ((with_reducible refine wpList_copy_splice (o := ⟨some 21, _, _, _, _, _⟩) rfl (.tmp 19) (.tmp 20) 32 32 rfl 5 Tryd.underlying32 info5_size _ _ _ _ _ _ rfl rfl (w.heap.size + 1) 1 (cellsA false (List.replicate 16 0)).toList 24 ?cg4 (nus .u8 bs) ?cn4 ?cp4 ?cf4 ?co4 (w.heap.size + 1) _ (Below.refl _ _) (Nat.le_refl _) ?_))
    case cg4 => rw [Array.toArray_toList]; exact HN.out
    case cn4 => rw [nus_length, HL.out]; rfl
    case cp4 =>
      intro _ j u hj
      have hjl : j < bs.length := by have := (List.getElem?_eq_some_iff.1 hj).1; rwa [nus_length] at this
      rw [nus_get _ _ _ hjl] at hj
      cases hj
      exact HCE.out j hjl
    case cf4 => rw [nus_length, HL.out]; decide
    case co4 => exact oneCell_nus _ _
    intro W2 hg2 hb2
    have h2 : W2.heap[w.heap.size + 1]? = some (.cells (splice (cellsA false (List.replicate 16 0)).toList 1 (nus .u8 bs)).toArray 24 (0, 0)) := hg2.out
    rw [HSP.out] at h2
    have HW2 := Lib.hid (show Blk W2 (w.heap.size + 1) 24 cs from h2)
    have HO2 := Lib.hid (show Blk W2 w.heap.size 24 (cellsA false (List.replicate 16 0)) from (hb2.block _ (Nat.lt_succ_self _)).trans HO.out)
    have HB2 := Lib.hid (HB.out.trans (hb2.mono (Nat.le_succ _)))
    clear h2 hg2 hb2
    go_wp2_with (first
      | (refine wpList_blk_load (op := ⟨some 22, .load 24 (.tmp 4), _, _, _, _⟩) rfl 24 (.tmp 4) rfl (w.heap.size + 1) (by rfl) _ HW2.out Tryd.underlying24 rfl HZ.out ?_)
      | (refine wpList_blk_store (op := ⟨none, .store 24 (.tmp 2) (.tmp 22), _, _, _, _⟩) rfl 24 (.tmp 2) (.tmp 22) rfl w.heap.size cs (by rfl) (by rfl) HO2.out HZ2.out HZ.out HAll.out ?_))
    intro w3 hA hF hB
    have HF := Lib.hid hF
    have HA := Lib.hid hA
    clear hF hA
    go_wp2
    have hrun := run_blk_load (P := Tryd.prog) 24 w.heap.size _ HA.out Tryd.underlying24 rfl HZ.out
    refine bodyPost_ret (results_cell_tmp 2 24 3 w.heap.size _ Tryd.results10 rfl hrun) rfl ⟨?_, HB2.out.trans (hB _ (Nat.le_refl _))⟩
    rw [HC.out, HL.out]
    rfl
  · have d4 : (((16 : Nat) : Int) != 4) = true := by rfl
    have hcell := hcell0
    obtain ⟨cs, hcs⟩ : ∃ cs, cs = cellsA true (bs ++ List.replicate (16 - bs.length) 0) := ⟨_, rfl⟩
    have hz : cs.size = 17 := by rw [hcs, cellsA_size, List.length_append, List.length_replicate]; omega
    have HZ := Lib.hid (i24.trans (congrArg some hz.symm))
    have HZ2 := Lib.hid (hz.trans (cellsA_size false (List.replicate 16 0)).symm)
    have HAll := Lib.hid (show cs.all (·.oneCell') = true by rw [hcs]; exact cellsA_all _ _)
    have HSP := Lib.hid ((splice_at true bs (by omega)).trans hcs.symm)
    have HC := Lib.hid hcs
    have HL := Lib.hid h16
    have HO := Lib.hid ((Blk.new w 24 (cellsA false (List.replicate 16 0))).alloc (.cells (cellsA true (List.replicate 16 0)) 24))
    have HN := Lib.hid (show Blk ((w.alloc (.cells (cellsA false (List.replicate 16 0)) 24)).alloc (.cells (cellsA true (List.replicate 16 0)) 24)) (w.heap.size + 1) 24 (cellsA true (List.replicate 16 0)) by
      have := Blk.new (w.alloc (.cells (cellsA false (List.replicate 16 0)) 24)) 24 (cellsA true (List.replicate 16 0)); rw [World.size_alloc] at this; exact this)
    have HCE := Lib.hid hcell
    have HB := Lib.hid ((((Below.refl w.heap.size w).alloc (Nat.le_refl _) (.cells (cellsA false (List.replicate 16 0)) 24)).alloc (by simp) (.cells (cellsA true (List.replicate 16 0)) 24)))
    clear hcell hcell0 hz hcs
    rw [HL.out]
    clear d4
    have d4 : (((4 : Int)) != 4) = false := by rfl
    clear d4
    go_enter Tryd.func10, Tryd.ntmps10
    go_wp2_with ((with_reducible refine wpList_copy_splice (o := ⟨some 21, _, _, _, _, _⟩) rfl (.tmp 19) (.tmp 20) 32 32 rfl 5 Tryd.underlying32 info5_size _ _ _ _ _ _ rfl rfl (w.heap.size + 1) 1 (cellsA true (List.replicate 16 0)).toList 24 ?cg16 (nus .u8 bs) ?cn16 ?cp16 ?cf16 ?co16 (w.heap.size + 1) _ (Below.refl _ _) (Nat.le_refl _) ?_))
    case cg16 => rw [Array.toArray_toList]; exact HN.out
    case cn16 => rw [nus_length, HL.out]; rfl
    case cp16 =>
      intro _ j u hj
      have hjl : j < bs.length := by have := (List.getElem?_eq_some_iff.1 hj).1; rwa [nus_length] at this
      rw [nus_get _ _ _ hjl] at hj
      cases hj
      exact HCE.out j hjl
    case cf16 => rw [nus_length, HL.out]; decide
    case co16 => exact oneCell_nus _ _
    intro W2 hg2 hb2
    have h2 : W2.heap[w.heap.size + 1]? = some (.cells (splice (cellsA true (List.replicate 16 0)).toList 1 (nus .u8 bs)).toArray 24 (0, 0)) := hg2.out
    rw [HSP.out] at h2
    have HW2 := Lib.hid (show Blk W2 (w.heap.size + 1) 24 cs from h2)
    have HO2 := Lib.hid (show Blk W2 w.heap.size 24 (cellsA false (List.replicate 16 0)) from (hb2.block _ (Nat.lt_succ_self _)).trans HO.out)
    have HB2 := Lib.hid (HB.out.trans (hb2.mono (Nat.le_succ _)))
    clear h2 hg2 hb2
    go_wp2_with (first
      | (refine wpList_blk_load (op := ⟨some 22, .load 24 (.tmp 4), _, _, _, _⟩) rfl 24 (.tmp 4) rfl (w.heap.size + 1) (by rfl) _ HW2.out Tryd.underlying24 rfl HZ.out ?_)
      | (refine wpList_blk_store (op := ⟨none, .store 24 (.tmp 2) (.tmp 22), _, _, _, _⟩) rfl 24 (.tmp 2) (.tmp 22) rfl w.heap.size cs (by rfl) (by rfl) HO2.out HZ2.out HZ.out HAll.out ?_))
    intro w3 hA hF hB
    have HF := Lib.hid hF
    have HA := Lib.hid hA
    clear hF hA
    go_wp2
    have hrun := run_blk_load (P := Tryd.prog) 24 w.heap.size _ HA.out Tryd.underlying24 rfl HZ.out
    refine bodyPost_ret (results_cell_tmp 2 24 3 w.heap.size _ Tryd.results10 rfl hrun) rfl ⟨?_, HB2.out.trans (hB _ (Nat.le_refl _))⟩
    rw [HC.out, HL.out]
    rfl
end Go.Proofs.YtjcmidgeddhfoaaDoor
