/- The statements' own start: true, in whatever world that holds the tables of Go's library. -/
import Derived.Test.YtjcmidgeddhfoaaDoorAt
import Derived.Deep.DeepCutAuto
import Derived.Deep.Cut
namespace Go.Proofs.YtjcmidgeddhfoaaDoor
open Go.RowKit Go.Lib

theorem tenV : validA false tenB := .inr fun i h1 h2 => by
  have h : i = 4 ∨ i = 5 ∨ i = 6 ∨ i = 7 ∨ i = 8 ∨ i = 9 ∨ i = 10 ∨ i = 11 ∨ i = 12 ∨ i = 13 ∨ i = 14 ∨ i = 15 := by omega
  rcases h with rfl | rfl | rfl | rfl | rfl | rfl | rfl | rfl | rfl | rfl | rfl | rfl <;> rfl
theorem tenL : ∀ n ∈ tenB, n < 256 := by decide
theorem sixL : ∀ n ∈ sixB, n < 256 := by decide
theorem rd_four (w : World) : Rd (w.alloc (.cells #[.int .u8 10, .int .u8 0, .int .u8 0, .int .u8 1] 5)) (.slice (some ⟨w.heap.size, 0, none⟩) 4 4) (nus .u8 [10, 0, 0, 1]) := by
  refine ⟨_, 4, rfl, by simp [nus], by simp [maxLen], .inr ⟨w.heap.size, 0, rfl, by simp, fun j hj => ?_⟩⟩
  rw [Nat.zero_add, (Blk.new w 5 #[.int .u8 10, .int .u8 0, .int .u8 0, .int .u8 1]).cell j]
  simp [nus] at hj ⊢


/-- A load of a whole block under a guard that holds. -/
theorem wpList_blk_load_want {P : Program} {ops : Array Oper} {rest : List Oper} {op : Oper} {a : Act} {w : World} {Q : Exit → Act → World → Prop} {t : TypeId} {cs : Array Value} (hw : Region.wanted op (yielded ops a.tmps) = true) (ty : TypeId) (x : Operand) (ho : op.op = .load ty x)
    (b : Nat) (hx : a.eval x = .pointer (some ⟨b, 0, none⟩)) (d : TypeDesc) (hc : Blk w b t cs)
    (hu : P.underlying ty = some d) (hd : d.isRow = true) (hi : (P.info? ty).map (·.size) = some cs.size)
    (h : wpList P ops Q rest (a.put op.dst (.agg cs)) w) : wpList P ops Q (op :: rest) a w :=
  BigFrame.wpList_want hw fun _ hK => wp_load_mid ty x ho b 0 hx cs.toList d hc.range hu hd (by simpa using hi) (by simpa using hK _ _ h)

set_option maxRecDepth 100000 in
set_option maxHeartbeats 4000000 in
theorem awake_any (w : World) (hE : Env w) : Calls Tryd.prog 7 #[] w fun e w' => e = .returned (.bool true) ∧ Below w.heap.size w w' := by
  obtain ⟨c1, hc1⟩ : ∃ c, c = cellsA false tenB := ⟨_, rfl⟩
  obtain ⟨c6, hc6⟩ : ∃ c, c = cellsA true sixB := ⟨_, rfl⟩
  have HE := Lib.hid hE
  have C13 := Lib.hid (show ∀ W, Calls Tryd.prog 13 #[.int .u8 10, .int .u8 0, .int .u8 0, .int .u8 1] W fun e w' => e = .returned (.agg c1) ∧ Below W.heap.size W w' from fun W => by rw [hc1]; exact v4_any 10 0 0 1 W)
  have C10 := Lib.hid (show ∀ W z, Rd W z (nus .u8 [10, 0, 0, 1]) → Calls Tryd.prog 10 #[z] W fun e w' => e = .returned (.tuple #[.agg c1, .int .i64 0]) ∧ Below W.heap.size W w' from fun W z hr => by rw [hc1]; exact from_adr false tenB rfl tenV z W hr)
  have C10b := Lib.hid (show ∀ W a c, Calls Tryd.prog 10 #[.slice a 2 c] W fun e w' => e = .returned (.tuple #[.agg (cellsA false (List.replicate 16 0)), .int .i64 2]) ∧ Below W.heap.size W w' from fun W a c => from_bad a 2 c W (by omega) (by omega))
  have C8a := Lib.hid (show ∀ W, Env W → Calls Tryd.prog 8 #[.string ⟨#[50, 48, 48, 49, 58, 48, 100, 98, 56, 58, 48, 48, 48, 48, 58, 48, 48, 48, 48, 58, 48, 48, 48, 48, 58, 48, 48, 48, 48, 58, 48, 48, 48, 48, 58, 48, 48, 48, 49]⟩] W fun e w' => e = .returned (.tuple #[.agg c6, .int .i64 0]) ∧ Below W.heap.size W w' from fun W hW => by
    have h := parse_any ⟨#[50, 48, 48, 49, 58, 48, 100, 98, 56, 58, 48, 48, 48, 48, 58, 48, 48, 48, 48, 58, 48, 48, 48, 48, 58, 48, 48, 48, 48, 58, 48, 48, 48, 48, 58, 48, 48, 48, 49]⟩ W (by decide) hW
    rw [show (⟨#[50, 48, 48, 49, 58, 48, 100, 98, 56, 58, 48, 48, 48, 48, 58, 48, 48, 48, 48, 58, 48, 48, 48, 48, 58, 48, 48, 48, 48, 58, 48, 48, 48, 48, 58, 48, 48, 48, 49]⟩ : ByteArray).data.toList = _ from rfl, at_full] at h
    rw [hc6]; exact h)
  have C8b := Lib.hid (show ∀ W, Env W → Calls Tryd.prog 8 #[.string ⟨#[49, 48, 46, 48, 46, 48, 46, 48, 49]⟩] W fun e w' => e = .returned (.tuple #[.agg (cellsA false (List.replicate 16 0)), .int .i64 2]) ∧ Below W.heap.size W w' from fun W hW => by
    have h := parse_any ⟨#[49, 48, 46, 48, 46, 48, 46, 48, 49]⟩ W (by decide) hW
    rw [show (⟨#[49, 48, 46, 48, 46, 48, 46, 48, 49]⟩ : ByteArray).data.toList = _ from rfl, at_nought] at h
    exact h)
  have C8c := Lib.hid (show ∀ W, Env W → Calls Tryd.prog 8 #[.string ⟨#[50, 48, 48, 49, 58, 100, 98, 56, 58, 48, 48, 48, 48, 58, 48, 48, 48, 48, 58, 48, 48, 48, 48, 58, 48, 48, 48, 48, 58, 48, 48, 48, 48, 58, 48, 48, 48, 49]⟩] W fun e w' => e = .returned (.tuple #[.agg (cellsA false (List.replicate 16 0)), .int .i64 2]) ∧ Below W.heap.size W w' from fun W hW => by
    have h := parse_any ⟨#[50, 48, 48, 49, 58, 100, 98, 56, 58, 48, 48, 48, 48, 58, 48, 48, 48, 48, 58, 48, 48, 48, 48, 58, 48, 48, 48, 48, 58, 48, 48, 48, 48, 58, 48, 48, 48, 49]⟩ W (by decide) hW
    rw [show (⟨#[50, 48, 48, 49, 58, 100, 98, 56, 58, 48, 48, 48, 48, 58, 48, 48, 48, 48, 58, 48, 48, 48, 48, 58, 48, 48, 48, 48, 58, 48, 48, 48, 48, 58, 48, 48, 48, 49]⟩ : ByteArray).data.toList = _ from rfl, at_short] at h
    exact h)
  have C9 := Lib.hid (show ∀ W, Env W → Calls Tryd.prog 9 #[.agg c1] W fun e w' => e = .returned (.string ⟨#[49, 48, 46, 48, 46, 48, 46, 49]⟩) ∧ Below W.heap.size W w' from fun W hW => by
    have h := text_adr false tenB rfl tenL W hW
    rw [ten_text] at h
    rw [hc1]; exact h)
  have C15 := Lib.hid (show ∀ W, Calls Tryd.prog 15 #[.agg c1, .agg c6] W fun e w' => e = .returned (.int .i64 (-1)) ∧ Below W.heap.size W w' from fun W => by
    rw [hc1, hc6]; exact cmp_diff 10 0 0 1 32 1 13 184 0 0 0 0 0 0 0 0 0 0 0 1 W)
  have C14 := Lib.hid (show ∀ W, Calls Tryd.prog 14 #[.agg c1] W fun e w' => e = .returned (.bool true) ∧ Below W.heap.size W w' from fun W => by rw [hc1]; exact valid_adr false tenB rfl tenV W)
  have C14b := Lib.hid (show ∀ W, Calls Tryd.prog 14 #[.agg #[.bool false, .int .u8 0, .int .u8 0, .int .u8 0, .int .u8 0, .int .u8 1, .int .u8 0, .int .u8 0, .int .u8 0, .int .u8 0, .int .u8 0, .int .u8 0, .int .u8 0, .int .u8 0, .int .u8 0, .int .u8 0, .int .u8 0]] W fun e w' => e = .returned (.bool false) ∧ Below W.heap.size W w' from fun W => valid_not W)
  have C11 := Lib.hid (show ∀ W, Calls Tryd.prog 11 #[.agg c6] W fun e w' => ∃ z, e = .returned z ∧ Rd w' z (nus .u8 sixB) ∧ Below W.heap.size W w' from fun W => by rw [hc6]; exact bytes_adr true sixB rfl W)
  have heq : ∀ W, (Op.equalIn 10000 24 (.agg c1) (.agg c1)).run Tryd.prog W = .ok true W := fun W => by rw [hc1]; exact eq_adr false tenB rfl tenL W
  have HEQ := Lib.hid heq
  have z1 : c1.size = 17 := by rw [hc1]; rfl
  have z6 : c6.size = 17 := by rw [hc6]; rfl
  have I1 := Lib.hid (i24.trans (congrArg some z1.symm))
  have I6 := Lib.hid (i24.trans (congrArg some z6.symm))
  have S1 := Lib.hid (z1.trans (cellsA_size false (List.replicate 16 0)).symm)
  have S6 := Lib.hid (z6.trans (cellsA_size false (List.replicate 16 0)).symm)
  have A1 := Lib.hid (show c1.all (·.oneCell') = true by rw [hc1]; exact cellsA_all _ _)
  have A6 := Lib.hid (show c6.all (·.oneCell') = true by rw [hc6]; exact cellsA_all _ _)
  have F0 := Lib.hid (show c6[0]? = some (.bool true) by rw [hc6]; rfl)
  have F2 := Lib.hid (show c6[2]? = some (.int .u8 1) by rw [hc6]; rfl)
  have F16 := Lib.hid (show c6[16]? = some (.int .u8 1) by rw [hc6]; rfl)
  clear hc1 hc6 z1 z6 heq hE
  go_enter Tryd.func7, Tryd.ntmps7
  go_wp2_with fail
  refine (C13.out _).mono ?_
  rintro e Y1 ⟨rfl, hb⟩
  have LY1 := Lib.hid hb
  clear hb
  go_wp2_with ((refine wpList_blk_store (op := ⟨none, .store 24 (.tmp 1) (.tmp 12), _, _, _, _⟩) rfl 24 (.tmp 1) (.tmp 12) rfl Y1.heap.size c1 (by rfl) (by rfl) (Blk.new Y1 24 (cellsA false (List.replicate 16 0))) S1.out I1.out A1.out ?_))
  intro W1 hA hF hB
  have LW1 := Lib.hid ((LY1.out.alloc LY1.out.size (.cells (cellsA false (List.replicate 16 0)) 24)).trans (hB _ LY1.out.size))
  have KaW1 := Lib.hid hA
  clear hA hF hB
  go_wp2_with fail
  refine (C10.out _ _ (rd_four _)).mono ?_
  rintro e Y2 ⟨rfl, hb⟩
  have LY2 := Lib.hid ((LW1.out.alloc LW1.out.size (.cells #[.int .u8 10, .int .u8 0, .int .u8 0, .int .u8 1] 5)).trans (hb.mono (Nat.le_trans LW1.out.size (by simp))))
  have KaY2 := Lib.hid ((KaW1.out.alloc (.cells #[.int .u8 10, .int .u8 0, .int .u8 0, .int .u8 1] 5)).below hb (KaW1.out.alloc (.cells #[.int .u8 10, .int .u8 0, .int .u8 0, .int .u8 1] 5)).lt)
  clear hb
  go_wp2_with ((refine wpList_blk_store (op := ⟨none, .store 24 (.tmp 2) (.tmp 16), _, _, _, _⟩) rfl 24 (.tmp 2) (.tmp 16) rfl Y2.heap.size c1 (by rfl) (by rfl) (Blk.new Y2 24 (cellsA false (List.replicate 16 0))) S1.out I1.out A1.out ?_))
  intro W2 hA hF hB
  have LW2 := Lib.hid ((LY2.out.alloc LY2.out.size (.cells (cellsA false (List.replicate 16 0)) 24)).trans (hB _ LY2.out.size))
  have KaW2 := Lib.hid (show Blk W2 Y1.heap.size 24 c1 from (hF _ (Nat.ne_of_lt KaY2.out.lt)).trans (KaY2.out.alloc _))
  have KbW2 := Lib.hid hA
  clear hA hF hB
  go_wp2_with fail
  refine (C10b.out _ _ _).mono ?_
  rintro e Y3 ⟨rfl, hb⟩
  have LY3 := Lib.hid ((LW2.out.alloc LW2.out.size (.cells #[.int .u8 1, .int .u8 2] 5)).trans (hb.mono (Nat.le_trans LW2.out.size (by simp))))
  have KaY3 := Lib.hid ((KaW2.out.alloc (.cells #[.int .u8 1, .int .u8 2] 5)).below hb (KaW2.out.alloc (.cells #[.int .u8 1, .int .u8 2] 5)).lt)
  have KbY3 := Lib.hid ((KbW2.out.alloc (.cells #[.int .u8 1, .int .u8 2] 5)).below hb (KbW2.out.alloc (.cells #[.int .u8 1, .int .u8 2] 5)).lt)
  clear hb
  go_wp2_with ((refine wpList_blk_store (op := ⟨none, .store 24 (.tmp 4) (.tmp 21), _, _, _, _⟩) rfl 24 (.tmp 4) (.tmp 21) rfl Y3.heap.size (cellsA false (List.replicate 16 0)) (by rfl) (by rfl) (Blk.new Y3 24 (cellsA false (List.replicate 16 0))) rfl (by kernel_rfl) (cellsA_all _ _) ?_))
  intro W3 hA hF hB
  have LW3 := Lib.hid ((LY3.out.alloc LY3.out.size (.cells (cellsA false (List.replicate 16 0)) 24)).trans (hB _ LY3.out.size))
  have KaW3 := Lib.hid (show Blk W3 Y1.heap.size 24 c1 from (hF _ (Nat.ne_of_lt KaY3.out.lt)).trans (KaY3.out.alloc _))
  have KbW3 := Lib.hid (show Blk W3 Y2.heap.size 24 c1 from (hF _ (Nat.ne_of_lt KbY3.out.lt)).trans (KbY3.out.alloc _))
  clear hA hF hB
  go_wp2_with fail
  refine (C8a.out _ (HE.out.below LW3.out)).mono ?_
  rintro e Y4 ⟨rfl, hb⟩
  have LY4 := Lib.hid (LW3.out.trans (hb.mono LW3.out.size))
  have KaY4 := Lib.hid (KaW3.out.below hb KaW3.out.lt)
  have KbY4 := Lib.hid (KbW3.out.below hb KbW3.out.lt)
  clear hb
  go_wp2_with ((refine wpList_blk_store (op := ⟨none, .store 24 (.tmp 6) (.tmp 25), _, _, _, _⟩) rfl 24 (.tmp 6) (.tmp 25) rfl Y4.heap.size c6 (by rfl) (by rfl) (Blk.new Y4 24 (cellsA false (List.replicate 16 0))) S6.out I6.out A6.out ?_))
  intro W4 hA hF hB
  have LW4 := Lib.hid ((LY4.out.alloc LY4.out.size (.cells (cellsA false (List.replicate 16 0)) 24)).trans (hB _ LY4.out.size))
  have KaW4 := Lib.hid (show Blk W4 Y1.heap.size 24 c1 from (hF _ (Nat.ne_of_lt KaY4.out.lt)).trans (KaY4.out.alloc _))
  have KbW4 := Lib.hid (show Blk W4 Y2.heap.size 24 c1 from (hF _ (Nat.ne_of_lt KbY4.out.lt)).trans (KbY4.out.alloc _))
  have KcW4 := Lib.hid hA
  clear hA hF hB
  go_wp2_with fail
  refine (C8b.out _ (HE.out.below LW4.out)).mono ?_
  rintro e Y5 ⟨rfl, hb⟩
  have LY5 := Lib.hid (LW4.out.trans (hb.mono LW4.out.size))
  have KaY5 := Lib.hid (KaW4.out.below hb KaW4.out.lt)
  have KbY5 := Lib.hid (KbW4.out.below hb KbW4.out.lt)
  have KcY5 := Lib.hid (KcW4.out.below hb KcW4.out.lt)
  clear hb
  go_wp2_with ((refine wpList_blk_store (op := ⟨none, .store 24 (.tmp 8) (.tmp 29), _, _, _, _⟩) rfl 24 (.tmp 8) (.tmp 29) rfl Y5.heap.size (cellsA false (List.replicate 16 0)) (by rfl) (by rfl) (Blk.new Y5 24 (cellsA false (List.replicate 16 0))) rfl (by kernel_rfl) (cellsA_all _ _) ?_))
  intro W5 hA hF hB
  have LW5 := Lib.hid ((LY5.out.alloc LY5.out.size (.cells (cellsA false (List.replicate 16 0)) 24)).trans (hB _ LY5.out.size))
  have KaW5 := Lib.hid (show Blk W5 Y1.heap.size 24 c1 from (hF _ (Nat.ne_of_lt KaY5.out.lt)).trans (KaY5.out.alloc _))
  have KbW5 := Lib.hid (show Blk W5 Y2.heap.size 24 c1 from (hF _ (Nat.ne_of_lt KbY5.out.lt)).trans (KbY5.out.alloc _))
  have KcW5 := Lib.hid (show Blk W5 Y4.heap.size 24 c6 from (hF _ (Nat.ne_of_lt KcY5.out.lt)).trans (KcY5.out.alloc _))
  clear hA hF hB
  go_wp2_with fail
  refine (C8c.out _ (HE.out.below LW5.out)).mono ?_
  rintro e Y6 ⟨rfl, hb⟩
  have LY6 := Lib.hid (LW5.out.trans (hb.mono LW5.out.size))
  have KaY6 := Lib.hid (KaW5.out.below hb KaW5.out.lt)
  have KbY6 := Lib.hid (KbW5.out.below hb KbW5.out.lt)
  have KcY6 := Lib.hid (KcW5.out.below hb KcW5.out.lt)
  clear hb
  go_wp2_with ((refine wpList_blk_store (op := ⟨none, .store 24 (.tmp 10) (.tmp 33), _, _, _, _⟩) rfl 24 (.tmp 10) (.tmp 33) rfl Y6.heap.size (cellsA false (List.replicate 16 0)) (by rfl) (by rfl) (Blk.new Y6 24 (cellsA false (List.replicate 16 0))) rfl (by kernel_rfl) (cellsA_all _ _) ?_))
  intro W6 hA hF hB
  have LW6 := Lib.hid ((LY6.out.alloc LY6.out.size (.cells (cellsA false (List.replicate 16 0)) 24)).trans (hB _ LY6.out.size))
  have KaW6 := Lib.hid (show Blk W6 Y1.heap.size 24 c1 from (hF _ (Nat.ne_of_lt KaY6.out.lt)).trans (KaY6.out.alloc _))
  have KbW6 := Lib.hid (show Blk W6 Y2.heap.size 24 c1 from (hF _ (Nat.ne_of_lt KbY6.out.lt)).trans (KbY6.out.alloc _))
  have KcW6 := Lib.hid (show Blk W6 Y4.heap.size 24 c6 from (hF _ (Nat.ne_of_lt KcY6.out.lt)).trans (KcY6.out.alloc _))
  clear hA hF hB
  have heq := HEQ.out
  go_upto_region 7 with fail
  go_step
  try simp only [List.cons_append, List.nil_append, List.append_toArray, List.toArray_append]
  try dsimp only [HAppend.hAppend, Append.append, List.append]
  with_reducible refine wpList_blk_load (op := ⟨some 35, .load 24 (.tmp 1), _, _, _, _⟩) ?w35 24 (.tmp 1) ?o35 Y1.heap.size ?x35 _ KaW6.out Tryd.underlying24 ?d35 I1.out ?_
  (case w35 => rfl)
  (case o35 => rfl)
  (case x35 => rfl)
  (case d35 => rfl)
  with_reducible refine wpList_blk_load (op := ⟨some 36, .load 24 (.tmp 2), _, _, _, _⟩) ?w36 24 (.tmp 2) ?o36 Y2.heap.size ?x36 _ KbW6.out Tryd.underlying24 ?d36 I1.out ?_
  (case w36 => rfl)
  (case o36 => rfl)
  (case x36 => rfl)
  (case d36 => rfl)
  go_wp2_with (((with_reducible refine wpList_blk_load_want (op := ⟨some 47, .load 24 (.tmp 1), _, _, _, _⟩) ?w47 24 (.tmp 1) ?o47 Y1.heap.size ?x47 _ KaW6.out Tryd.underlying24 ?d47 I1.out ?_); (case w47 => rfl); (case o47 => rfl); (case x47 => rfl); (case d47 => rfl)))
  refine (C9.out _ (HE.out.below LW6.out)).mono ?_
  rintro e X1 ⟨rfl, hb⟩
  have LX1 := Lib.hid (LW6.out.trans (hb.mono LW6.out.size))
  have KaX1 := Lib.hid (KaW6.out.below hb KaW6.out.lt)
  have KbX1 := Lib.hid (KbW6.out.below hb KbW6.out.lt)
  have KcX1 := Lib.hid (KcW6.out.below hb KcW6.out.lt)
  clear hb
  have h0 : X1.cell? ⟨Y4.heap.size, 0, none⟩ = some (.bool true) := (KcX1.out.cell 0).trans F0.out
  have h2 : X1.cell? ⟨Y4.heap.size, 2, none⟩ = some (.int .u8 1) := (KcX1.out.cell 2).trans F2.out
  have h16 : X1.cell? ⟨Y4.heap.size, 16, none⟩ = some (.int .u8 1) := (KcX1.out.cell 16).trans F16.out
  go_wp2_with (first | ((with_reducible refine wpList_blk_load_want (op := ⟨some 80, .load 24 (.tmp 1), _, _, _, _⟩) ?w80 24 (.tmp 1) ?o80 Y1.heap.size ?x80 _ KaX1.out Tryd.underlying24 ?d80 I1.out ?_); (case w80 => rfl); (case o80 => rfl); (case x80 => rfl); (case d80 => rfl)) | ((with_reducible refine wpList_blk_load_want (op := ⟨some 81, .load 24 (.tmp 6), _, _, _, _⟩) ?w81 24 (.tmp 6) ?o81 Y4.heap.size ?x81 _ KcX1.out Tryd.underlying24 ?d81 I6.out ?_); (case w81 => rfl); (case o81 => rfl); (case x81 => rfl); (case d81 => rfl)))
  clear h0 h2 h16
  refine (C15.out _).mono ?_
  rintro e X2 ⟨rfl, hb⟩
  have LX2 := Lib.hid (LX1.out.trans (hb.mono LX1.out.size))
  have KaX2 := Lib.hid (KaX1.out.below hb KaX1.out.lt)
  have KbX2 := Lib.hid (KbX1.out.below hb KbX1.out.lt)
  have KcX2 := Lib.hid (KcX1.out.below hb KcX1.out.lt)
  clear hb
  go_wp2_with (((with_reducible refine wpList_blk_load_want (op := ⟨some 86, .load 24 (.tmp 1), _, _, _, _⟩) ?w86 24 (.tmp 1) ?o86 Y1.heap.size ?x86 _ KaX2.out Tryd.underlying24 ?d86 I1.out ?_); (case w86 => rfl); (case o86 => rfl); (case x86 => rfl); (case d86 => rfl)))
  refine (C14.out _).mono ?_
  rintro e X3 ⟨rfl, hb⟩
  have LX3 := Lib.hid (LX2.out.trans (hb.mono LX2.out.size))
  have KaX3 := Lib.hid (KaX2.out.below hb KaX2.out.lt)
  have KbX3 := Lib.hid (KbX2.out.below hb KbX2.out.lt)
  have KcX3 := Lib.hid (KcX2.out.below hb KcX2.out.lt)
  clear hb
  go_wp2_with fail
  refine (C14b.out _).mono ?_
  rintro e X4 ⟨rfl, hb⟩
  have LX4 := Lib.hid (LX3.out.trans (hb.mono LX3.out.size))
  have KaX4 := Lib.hid (KaX3.out.below hb KaX3.out.lt)
  have KbX4 := Lib.hid (KbX3.out.below hb KbX3.out.lt)
  have KcX4 := Lib.hid (KcX3.out.below hb KcX3.out.lt)
  clear hb
  go_wp2_with (((with_reducible refine wpList_blk_load_want (op := ⟨some 96, .load 24 (.tmp 6), _, _, _, _⟩) ?w96 24 (.tmp 6) ?o96 Y4.heap.size ?x96 _ KcX4.out Tryd.underlying24 ?d96 I6.out ?_); (case w96 => rfl); (case o96 => rfl); (case x96 => rfl); (case d96 => rfl)))
  refine (C11.out _).mono ?_
  rintro e X5 ⟨z, rfl, hr, hb⟩
  have LX5 := Lib.hid (LX4.out.trans (hb.mono LX4.out.size))
  obtain ⟨za, zc, rfl, _, _⟩ := rd_shape hr
  rw [show sixB.length = 16 from rfl]
  clear hb hr
  go_wp2
  go_ret
  exact ⟨rfl, LX5.out⟩
end Go.Proofs.YtjcmidgeddhfoaaDoor
