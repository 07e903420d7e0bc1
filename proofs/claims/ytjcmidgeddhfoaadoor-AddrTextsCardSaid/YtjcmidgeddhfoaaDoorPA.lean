/- addr.Parse. -/
import Derived.Test.YtjcmidgeddhfoaaDoorP6
namespace Go.Proofs.YtjcmidgeddhfoaaDoor
open Go.RowKit Go.Lib

/-- What Parse answers. -/
def outA : Option (Bool × List Nat) → Value
  | some (v, bs) => .tuple #[adr v bs, .int .i64 0]
  | none => .tuple #[adr false (List.replicate 16 0), .int .i64 2]

theorem list16 (bs : List Nat) (h : bs.length = 16) : ∃ b0 b1 b2 b3 b4 b5 b6 b7 b8 b9 b10 b11 b12 b13 b14 b15, bs = [b0, b1, b2, b3, b4, b5, b6, b7, b8, b9, b10, b11, b12, b13, b14, b15] := by
  match bs, h with
  | [b0, b1, b2, b3, b4, b5, b6, b7, b8, b9, b10, b11, b12, b13, b14, b15], _ => exact ⟨b0, b1, b2, b3, b4, b5, b6, b7, b8, b9, b10, b11, b12, b13, b14, b15, rfl⟩

set_option maxRecDepth 100000 in
set_option maxHeartbeats 4000000 in
theorem parse_four (s : ByteArray) (w : World) (a b c d : Nat) (C : Calls Tryd.prog 16 #[.string s] (w.alloc (.cells (cellsA false (List.replicate 16 0)) 24)) fun e w' => e = .returned (.tuple #[.agg #[.bool false, .int .u8 (a : Int), .int .u8 (b : Int), .int .u8 (c : Int), .int .u8 (d : Int), .int .u8 0, .int .u8 0, .int .u8 0, .int .u8 0, .int .u8 0, .int .u8 0, .int .u8 0, .int .u8 0, .int .u8 0, .int .u8 0, .int .u8 0, .int .u8 0], .bool true]) ∧ Below (w.heap.size + 1) (w.alloc (.cells (cellsA false (List.replicate 16 0)) 24)) w') :
    Calls Tryd.prog 8 #[.string s] w fun e w' => e = .returned (.tuple #[adr false ([a, b, c, d] ++ List.replicate 12 0), .int .i64 0]) ∧ Below w.heap.size w w' := by
  have B0 := Lib.hid ((Below.refl w.heap.size w).alloc (Nat.le_refl _) (.cells (cellsA false (List.replicate 16 0)) 24))
  have K0 := Lib.hid (Blk.new w 24 (cellsA false (List.replicate 16 0)))
  have H4 := Lib.hid C
  clear C
  go_enter Tryd.func8, Tryd.ntmps8
  go_wp2_with fail
  refine H4.out.mono ?_
  rintro e w1 ⟨rfl, hb1⟩
  have HO := Lib.hid (((K0.out).below hb1 (Nat.lt_succ_self _)).alloc (.cells #[.bool false, .int .u8 (a : Int), .int .u8 (b : Int), .int .u8 (c : Int), .int .u8 (d : Int), .int .u8 0, .int .u8 0, .int .u8 0, .int .u8 0, .int .u8 0, .int .u8 0, .int .u8 0, .int .u8 0, .int .u8 0, .int .u8 0, .int .u8 0, .int .u8 0] 24))
  have HB1 := Lib.hid (B0.out.trans (hb1.mono (Nat.le_succ _)))
  clear hb1 H4
  go_wp2_with ((refine wpList_blk_store (op := ⟨none, .store 24 (.tmp 2) (.tmp 14), _, _, _, _⟩) rfl 24 (.tmp 2) (.tmp 14) rfl w.heap.size (cellsA false ([a, b, c, d] ++ List.replicate 12 0)) (by rfl) (by rfl) HO.out rfl (by kernel_rfl) (cellsA_all _ _) ?_))
  intro w3 hA hF hB
  have HF := Lib.hid hF
  have HA := Lib.hid hA
  clear hF hA
  go_wp2
  have hrun := run_blk_load (P := Tryd.prog) 24 w.heap.size _ HA.out Tryd.underlying24 rfl (by kernel_rfl)
  refine bodyPost_ret (results_cell_tmp 2 24 3 w.heap.size _ Tryd.results8 rfl hrun) rfl ⟨?_, (HB1.out.alloc HB1.out.size _).trans (hB _ (Nat.le_refl _))⟩
  rfl

set_option maxRecDepth 100000 in
set_option maxHeartbeats 4000000 in
theorem parse_none_ (s : ByteArray) (w : World) (C : Calls Tryd.prog 16 #[.string s] (w.alloc (.cells (cellsA false (List.replicate 16 0)) 24)) fun e w' => e = .returned (.tuple #[.agg #[.bool false, .int .u8 0, .int .u8 0, .int .u8 0, .int .u8 0, .int .u8 0, .int .u8 0, .int .u8 0, .int .u8 0, .int .u8 0, .int .u8 0, .int .u8 0, .int .u8 0, .int .u8 0, .int .u8 0, .int .u8 0, .int .u8 0], .bool false]) ∧ Below (w.heap.size + 1) (w.alloc (.cells (cellsA false (List.replicate 16 0)) 24)) w')
    (D : ∀ w1 : World, Calls Tryd.prog 17 #[.string s] (w1.alloc (.cells #[.bool false, .int .u8 0, .int .u8 0, .int .u8 0, .int .u8 0, .int .u8 0, .int .u8 0, .int .u8 0, .int .u8 0, .int .u8 0, .int .u8 0, .int .u8 0, .int .u8 0, .int .u8 0, .int .u8 0, .int .u8 0, .int .u8 0] 24)) fun e w' => e = .returned (.tuple #[.agg #[.bool false, .int .u8 0, .int .u8 0, .int .u8 0, .int .u8 0, .int .u8 0, .int .u8 0, .int .u8 0, .int .u8 0, .int .u8 0, .int .u8 0, .int .u8 0, .int .u8 0, .int .u8 0, .int .u8 0, .int .u8 0, .int .u8 0], .bool false]) ∧ Below (w1.heap.size + 1) (w1.alloc (.cells #[.bool false, .int .u8 0, .int .u8 0, .int .u8 0, .int .u8 0, .int .u8 0, .int .u8 0, .int .u8 0, .int .u8 0, .int .u8 0, .int .u8 0, .int .u8 0, .int .u8 0, .int .u8 0, .int .u8 0, .int .u8 0, .int .u8 0] 24)) w') :
    Calls Tryd.prog 8 #[.string s] w fun e w' => e = .returned (.tuple #[adr false (List.replicate 16 0), .int .i64 2]) ∧ Below w.heap.size w w' := by
  have B0 := Lib.hid ((Below.refl w.heap.size w).alloc (Nat.le_refl _) (.cells (cellsA false (List.replicate 16 0)) 24))
  have K0 := Lib.hid (Blk.new w 24 (cellsA false (List.replicate 16 0)))
  have H4 := Lib.hid C
  have HD := Lib.hid D
  clear C D
  go_enter Tryd.func8, Tryd.ntmps8
  go_wp2_with fail
  refine H4.out.mono ?_
  rintro e w1 ⟨rfl, hb1⟩
  have HO := Lib.hid ((K0.out).below hb1 (Nat.lt_succ_self _))
  have HB1 := Lib.hid (B0.out.trans (hb1.mono (Nat.le_succ _)))
  clear hb1 H4
  go_wp2_with fail
  have H6 := Lib.hid (HD.out w1)
  refine H6.out.mono ?_
  rintro e w2 ⟨rfl, hb2⟩
  have HO2 := Lib.hid (((HO.out).alloc (.cells #[.bool false, .int .u8 0, .int .u8 0, .int .u8 0, .int .u8 0, .int .u8 0, .int .u8 0, .int .u8 0, .int .u8 0, .int .u8 0, .int .u8 0, .int .u8 0, .int .u8 0, .int .u8 0, .int .u8 0, .int .u8 0, .int .u8 0] 24)).below hb2 (Nat.lt_succ_of_lt HO.out.lt))
  have HO3 := Lib.hid (HO2.out.alloc (.cells #[.bool false, .int .u8 0, .int .u8 0, .int .u8 0, .int .u8 0, .int .u8 0, .int .u8 0, .int .u8 0, .int .u8 0, .int .u8 0, .int .u8 0, .int .u8 0, .int .u8 0, .int .u8 0, .int .u8 0, .int .u8 0, .int .u8 0] 24))
  have HB2 := Lib.hid ((HB1.out.alloc HB1.out.size (.cells #[.bool false, .int .u8 0, .int .u8 0, .int .u8 0, .int .u8 0, .int .u8 0, .int .u8 0, .int .u8 0, .int .u8 0, .int .u8 0, .int .u8 0, .int .u8 0, .int .u8 0, .int .u8 0, .int .u8 0, .int .u8 0, .int .u8 0] 24)).trans (hb2.mono (Nat.le_succ_of_le HB1.out.size)))
  clear hb2 H6
  go_wp2_with ((refine wpList_blk_store (op := ⟨none, .store 24 (.tmp 2) (.tmp 22), _, _, _, _⟩) rfl 24 (.tmp 2) (.tmp 22) rfl w.heap.size (cellsA false (List.replicate 16 0)) (by rfl) (by rfl) HO3.out rfl (by kernel_rfl) (cellsA_all _ _) ?_))
  intro w3 hA hF hB
  have HF := Lib.hid hF
  have HA := Lib.hid hA
  clear hF hA
  go_wp2
  have hrun := run_blk_load (P := Tryd.prog) 24 w.heap.size _ HA.out Tryd.underlying24 rfl (by kernel_rfl)
  refine bodyPost_ret (results_cell_tmp 2 24 3 w.heap.size _ Tryd.results8 rfl hrun) rfl ⟨?_, (HB2.out.alloc HB2.out.size _).trans (hB _ (Nat.le_refl _))⟩
  rfl

set_option maxRecDepth 100000 in
set_option maxHeartbeats 4000000 in
theorem parse_six (s : ByteArray) (w : World) (cs : Array Value) (hz : cs.size = 17) (hall : cs.all (·.oneCell') = true) (C : Calls Tryd.prog 16 #[.string s] (w.alloc (.cells (cellsA false (List.replicate 16 0)) 24)) fun e w' => e = .returned (.tuple #[.agg #[.bool false, .int .u8 0, .int .u8 0, .int .u8 0, .int .u8 0, .int .u8 0, .int .u8 0, .int .u8 0, .int .u8 0, .int .u8 0, .int .u8 0, .int .u8 0, .int .u8 0, .int .u8 0, .int .u8 0, .int .u8 0, .int .u8 0], .bool false]) ∧ Below (w.heap.size + 1) (w.alloc (.cells (cellsA false (List.replicate 16 0)) 24)) w')
    (D : ∀ w1 : World, Calls Tryd.prog 17 #[.string s] (w1.alloc (.cells #[.bool false, .int .u8 0, .int .u8 0, .int .u8 0, .int .u8 0, .int .u8 0, .int .u8 0, .int .u8 0, .int .u8 0, .int .u8 0, .int .u8 0, .int .u8 0, .int .u8 0, .int .u8 0, .int .u8 0, .int .u8 0, .int .u8 0] 24)) fun e w' => e = .returned (.tuple #[.agg cs, .bool true]) ∧ Below (w1.heap.size + 1) (w1.alloc (.cells #[.bool false, .int .u8 0, .int .u8 0, .int .u8 0, .int .u8 0, .int .u8 0, .int .u8 0, .int .u8 0, .int .u8 0, .int .u8 0, .int .u8 0, .int .u8 0, .int .u8 0, .int .u8 0, .int .u8 0, .int .u8 0, .int .u8 0] 24)) w') :
    Calls Tryd.prog 8 #[.string s] w fun e w' => e = .returned (.tuple #[.agg cs, .int .i64 0]) ∧ Below w.heap.size w w' := by
  have HZ := Lib.hid (i24.trans (congrArg some hz.symm))
  have HZ2 := Lib.hid (hz.trans (cellsA_size false (List.replicate 16 0)).symm)
  have HAll := Lib.hid hall
  clear hz hall
  have B0 := Lib.hid ((Below.refl w.heap.size w).alloc (Nat.le_refl _) (.cells (cellsA false (List.replicate 16 0)) 24))
  have K0 := Lib.hid (Blk.new w 24 (cellsA false (List.replicate 16 0)))
  have H4 := Lib.hid C
  have HD := Lib.hid D
  clear C D
  go_enter Tryd.func8, Tryd.ntmps8
  go_wp2_with fail
  refine H4.out.mono ?_
  rintro e w1 ⟨rfl, hb1⟩
  have HO := Lib.hid ((K0.out).below hb1 (Nat.lt_succ_self _))
  have HB1 := Lib.hid (B0.out.trans (hb1.mono (Nat.le_succ _)))
  clear hb1 H4
  go_wp2_with fail
  have H6 := Lib.hid (HD.out w1)
  refine H6.out.mono ?_
  rintro e w2 ⟨rfl, hb2⟩
  have HO2 := Lib.hid (((HO.out).alloc (.cells #[.bool false, .int .u8 0, .int .u8 0, .int .u8 0, .int .u8 0, .int .u8 0, .int .u8 0, .int .u8 0, .int .u8 0, .int .u8 0, .int .u8 0, .int .u8 0, .int .u8 0, .int .u8 0, .int .u8 0, .int .u8 0, .int .u8 0] 24)).below hb2 (Nat.lt_succ_of_lt HO.out.lt))
  have HO3 := Lib.hid (HO2.out.alloc (.cells #[.bool false, .int .u8 0, .int .u8 0, .int .u8 0, .int .u8 0, .int .u8 0, .int .u8 0, .int .u8 0, .int .u8 0, .int .u8 0, .int .u8 0, .int .u8 0, .int .u8 0, .int .u8 0, .int .u8 0, .int .u8 0, .int .u8 0] 24))
  have HN3 := Lib.hid (Blk.new w2 24 (cellsA false (List.replicate 16 0)))
  have HB2 := Lib.hid ((HB1.out.alloc HB1.out.size (.cells #[.bool false, .int .u8 0, .int .u8 0, .int .u8 0, .int .u8 0, .int .u8 0, .int .u8 0, .int .u8 0, .int .u8 0, .int .u8 0, .int .u8 0, .int .u8 0, .int .u8 0, .int .u8 0, .int .u8 0, .int .u8 0, .int .u8 0] 24)).trans (hb2.mono (Nat.le_succ_of_le HB1.out.size)))
  clear hb2 H6
  go_wp2_with ((refine wpList_blk_store (op := ⟨none, .store 24 (.tmp 6) (.tmp 18), _, _, _, _⟩) rfl 24 (.tmp 6) (.tmp 18) rfl w2.heap.size cs (by rfl) (by rfl) HN3.out HZ2.out HZ.out HAll.out ?_))
  intro w3 hA hF hB
  have hne : w.heap.size ≠ w2.heap.size := Nat.ne_of_lt HO2.out.lt
  have HO4 := Lib.hid ((hF _ hne).trans HO3.out)
  have HB3 := Lib.hid ((HB2.out.alloc HB2.out.size (.cells (cellsA false (List.replicate 16 0)) 24)).trans (hB _ HB2.out.size))
  have HA := Lib.hid hA
  clear hF hA hne hB
  go_wp2_with (first
    | (refine wpList_blk_load (op := ⟨some 21, .load 24 (.tmp 6), _, _, _, _⟩) rfl 24 (.tmp 6) rfl w2.heap.size (by rfl) _ HA.out Tryd.underlying24 rfl HZ.out ?_)
    | (refine wpList_blk_store (op := ⟨none, .store 24 (.tmp 2) (.tmp 21), _, _, _, _⟩) rfl 24 (.tmp 2) (.tmp 21) rfl w.heap.size cs (by rfl) (by rfl) HO4.out HZ2.out HZ.out HAll.out ?_))
  intro w4 hA4 hF4 hB4
  have HF4 := Lib.hid hF4
  have HA4 := Lib.hid hA4
  clear hF4 hA4
  go_wp2
  have hrun := run_blk_load (P := Tryd.prog) 24 w.heap.size _ HA4.out Tryd.underlying24 rfl HZ.out
  exact bodyPost_ret (results_cell_tmp 2 24 3 w.heap.size _ Tryd.results8 rfl hrun) rfl ⟨rfl, HB3.out.trans (hB4 _ (Nat.le_refl _))⟩

theorem parse_any (s : ByteArray) (w : World) (hs : s.size ≤ 140737488355328) (hE : Env w) :
    Calls Tryd.prog 8 #[.string s] w fun e w' => e = .returned (outA (parseA s.data.toList)) ∧ Below w.heap.size w w' := by
  have hE1 : Env (w.alloc (.cells (cellsA false (List.replicate 16 0)) 24)) := hE.below ((Below.refl _ w).alloc (Nat.le_refl _) _)
  have C4 := v4_parse s (w.alloc (.cells (cellsA false (List.replicate 16 0)) 24)) hs hE1
  rw [World.size_alloc] at C4
  rcases h4 : parse4 4 s.data.toList with _ | ns
  · rw [h4] at C4
    rcases h6 : parse6 s.data.toList with _ | bs
    · have e : parseA s.data.toList = none := by unfold parseA; rw [h4, h6]; rfl
      rw [e]
      exact parse_none_ s w C4 fun w1 => by
        have C6 := v6_parse s (w1.alloc (.cells (cellsA false (List.replicate 16 0)) 24)) hs
        rw [h6, World.size_alloc] at C6
        exact C6
    · obtain ⟨hl, hlt, ht⟩ := parse6_some h6
      have e : parseA s.data.toList = some (true, bs) := by unfold parseA; rw [h4, h6]; rfl
      rw [e]
      exact parse_six s w (cellsA true bs) (by rw [cellsA_size, hl]) (cellsA_all _ _) C4 fun w1 => by
        have C6 := v6_parse s (w1.alloc (.cells (cellsA false (List.replicate 16 0)) 24)) hs
        rw [h6, World.size_alloc] at C6
        exact C6
  · obtain ⟨hl, hlt, ht⟩ := parse4_some 3 _ _ h4
    obtain ⟨a, b, c, d, rfl⟩ : ∃ a b c d, ns = [a, b, c, d] := by
      match ns, hl with
      | [a, b, c, d], _ => exact ⟨a, b, c, d, rfl⟩
    rw [h4] at C4
    have e : parseA s.data.toList = some (false, [a, b, c, d] ++ List.replicate 12 0) := by unfold parseA; rw [h4]
    rw [e]
    exact parse_four s w a b c d C4
end Go.Proofs.YtjcmidgeddhfoaaDoor
