/- AddrBack: what was written is read as it was. -/
import Derived.Test.YtajnnplkmhlbiaaDoorAw
namespace Go.Proofs.YtajnnplkmhlbiaaDoor
open Go.RowKit Go.Lib

set_option maxRecDepth 100000 in
set_option maxHeartbeats 4000000 in
theorem back_walk (v : Bool) (bs : List Nat) (hl : bs.length = 16) (hb : ∀ n ∈ bs, n < 256) (w : World) (hE : Env w) :
    Calls Tryd.prog 3 #[adr v bs] w fun e w' => e = .returned (.bool true) ∧ Below w.heap.size w w' := by
  obtain ⟨c, hc⟩ : ∃ c, c = cellsA v bs := ⟨_, rfl⟩
  have hadr : adr v bs = .agg c := by rw [hc]; rfl
  rw [hadr]
  have HE := Lib.hid hE
  have Z := Lib.hid (show c.size = 17 by rw [hc, cellsA_size, hl])
  have I := Lib.hid (i24.trans (congrArg some Z.out.symm))
  have S0 := Lib.hid (Z.out.trans (cellsA_size false (List.replicate 16 0)).symm)
  have A := Lib.hid (show c.all (·.oneCell') = true by rw [hc]; exact cellsA_all _ _)
  have C6 := Lib.hid (show ∀ W, Calls Tryd.prog 6 #[.agg c] W fun e w' => e = .returned (.bool (vldA v bs)) ∧ Below W.heap.size W w' from fun W => by rw [hc]; exact ref_adr v bs hl W)
  have K0w := Lib.hid (Blk.new w 24 c)
  have Lw := Lib.hid ((Below.refl w.heap.size w).alloc (Nat.le_refl _) (.cells c 24))
  by_cases hv : vldA v bs = true
  · have hval := vldA_spec.1 hv
    obtain ⟨T, hT⟩ : ∃ T : ByteArray, T = ⟨(textA v bs).toArray⟩ := ⟨_, rfl⟩
    have C9 := Lib.hid (show ∀ W, Env W → Calls Tryd.prog 9 #[.agg c] W fun e w' => e = .returned (.string T) ∧ Below W.heap.size W w' from fun W hW => by rw [hc, hT]; exact text_adr v bs hl hb W hW)
    have C8 := Lib.hid (show ∀ W, Env W → Calls Tryd.prog 8 #[.string T] W fun e w' => e = .returned (.tuple #[.agg c, .int .i64 0]) ∧ Below W.heap.size W w' from fun W hW => by rw [hc, hT]; exact parse_adr v bs hl hb hval W hW (by have := textA_len v bs hl hb; omega))
    obtain ⟨bz, hbz⟩ : ∃ bz, bz = bytesA v bs := ⟨_, rfl⟩
    have C11 := Lib.hid (show ∀ W, Calls Tryd.prog 11 #[.agg c] W fun e w' => ∃ z, e = .returned z ∧ Rd w' z (nus .u8 bz) ∧ Below W.heap.size W w' from fun W => by rw [hc, hbz]; exact bytes_adr v bs hl W)
    have C10 := Lib.hid (show ∀ W z, Rd W z (nus .u8 bz) → Calls Tryd.prog 10 #[z] W fun e w' => e = .returned (.tuple #[.agg c, .int .i64 0]) ∧ Below W.heap.size W w' from fun W z hr => by rw [hc]; rw [hbz] at hr; exact from_adr v bs hl hval z W hr)
    have heq : ∀ W, (Op.equalIn 10000 24 (.agg c) (.agg c)).run Tryd.prog W = .ok true W := fun W => by rw [hc]; exact eq_adr v bs hl hb W
    have HEQ := Lib.hid heq
    have HV := Lib.hid hv
    rw [hv] at C6
    clear hc hadr hE hl hb hval hT hbz heq hv
    go_enter Tryd.func3, Tryd.ntmps3
    go_wp2_with (((with_reducible refine wpList_blk_load (op := ⟨some 7, .load 24 (.tmp 1), _, _, _, _⟩) ?w7 24 (.tmp 1) ?o7 w.heap.size ?x7 _ K0w.out Tryd.underlying24 ?d7 I.out ?_); (case w7 => rfl); (case o7 => rfl); (case x7 => rfl); (case d7 => rfl)))
    refine (C6.out _).mono ?_
    rintro e X1 ⟨rfl, hb⟩
    have LX1 := Lib.hid (Lw.out.trans (hb.mono Lw.out.size))
    have K0X1 := Lib.hid (K0w.out.below hb K0w.out.lt)
    clear hb
    go_wp2_with (((with_reducible refine wpList_blk_load (op := ⟨some 12, .load 24 (.tmp 1), _, _, _, _⟩) ?w12 24 (.tmp 1) ?o12 w.heap.size ?x12 _ K0X1.out Tryd.underlying24 ?d12 I.out ?_); (case w12 => rfl); (case o12 => rfl); (case x12 => rfl); (case d12 => rfl)))
    refine (C9.out _ (HE.out.below LX1.out)).mono ?_
    rintro e X2 ⟨rfl, hb⟩
    have LX2 := Lib.hid (LX1.out.trans (hb.mono LX1.out.size))
    have K0X2 := Lib.hid (K0X1.out.below hb K0X1.out.lt)
    clear hb
    go_wp2_with fail
    refine (C8.out _ (HE.out.below LX2.out)).mono ?_
    rintro e X3 ⟨rfl, hb⟩
    have LX3 := Lib.hid (LX2.out.trans (hb.mono LX2.out.size))
    have K0X3 := Lib.hid (K0X2.out.below hb K0X2.out.lt)
    clear hb
    go_wp2_with ((refine wpList_blk_store (op := ⟨none, .store 24 (.tmp 3) (.tmp 15), _, _, _, _⟩) rfl 24 (.tmp 3) (.tmp 15) rfl X3.heap.size c (by rfl) (by rfl) (Blk.new X3 24 (cellsA false (List.replicate 16 0))) S0.out I.out A.out ?_))
    intro W1 hA hF hB
    have LW1 := Lib.hid ((LX3.out.alloc LX3.out.size (.cells (cellsA false (List.replicate 16 0)) 24)).trans (hB _ LX3.out.size))
    have K0W1 := Lib.hid (show Blk W1 w.heap.size 24 c from (hF _ (Nat.ne_of_lt K0X3.out.lt)).trans (K0X3.out.alloc _))
    have KaW1 := Lib.hid hA
    clear hA hF hB
    go_wp2_with (((with_reducible refine wpList_blk_load (op := ⟨some 18, .load 24 (.tmp 1), _, _, _, _⟩) ?w18 24 (.tmp 1) ?o18 w.heap.size ?x18 _ K0W1.out Tryd.underlying24 ?d18 I.out ?_); (case w18 => rfl); (case o18 => rfl); (case x18 => rfl); (case d18 => rfl)))
    refine (C11.out _).mono ?_
    rintro e X4 ⟨z, rfl, hr, hb⟩
    have LX4 := Lib.hid (LW1.out.trans (hb.mono LW1.out.size))
    have K0X4 := Lib.hid (K0W1.out.below hb K0W1.out.lt)
    have KaX4 := Lib.hid (KaW1.out.below hb KaW1.out.lt)
    have HR := Lib.hid hr
    clear hr
    clear hb
    go_wp2_with fail
    refine (C10.out _ _ HR.out).mono ?_
    rintro e X5 ⟨rfl, hb⟩
    have LX5 := Lib.hid (LX4.out.trans (hb.mono LX4.out.size))
    have K0X5 := Lib.hid (K0X4.out.below hb K0X4.out.lt)
    have KaX5 := Lib.hid (KaX4.out.below hb KaX4.out.lt)
    clear hb
    go_wp2_with ((refine wpList_blk_store (op := ⟨none, .store 24 (.tmp 5) (.tmp 21), _, _, _, _⟩) rfl 24 (.tmp 5) (.tmp 21) rfl X5.heap.size c (by rfl) (by rfl) (Blk.new X5 24 (cellsA false (List.replicate 16 0))) S0.out I.out A.out ?_))
    intro W2 hA hF hB
    have LW2 := Lib.hid ((LX5.out.alloc LX5.out.size (.cells (cellsA false (List.replicate 16 0)) 24)).trans (hB _ LX5.out.size))
    have K0W2 := Lib.hid (show Blk W2 w.heap.size 24 c from (hF _ (Nat.ne_of_lt K0X5.out.lt)).trans (K0X5.out.alloc _))
    have KaW2 := Lib.hid (show Blk W2 X3.heap.size 24 c from (hF _ (Nat.ne_of_lt KaX5.out.lt)).trans (KaX5.out.alloc _))
    have KbW2 := Lib.hid hA
    clear hA hF hB
    have heq := HEQ.out
    go_wp2_with (first | ((with_reducible refine wpList_blk_load_want (op := ⟨some 30, .load 24 (.tmp 3), _, _, _, _⟩) ?w30 24 (.tmp 3) ?o30 X3.heap.size ?x30 _ KaW2.out Tryd.underlying24 ?d30 I.out ?_); (case w30 => rfl); (case o30 => rfl); (case x30 => rfl); (case d30 => rfl)) | ((with_reducible refine wpList_blk_load_want (op := ⟨some 31, .load 24 (.tmp 1), _, _, _, _⟩) ?w31 24 (.tmp 1) ?o31 w.heap.size ?x31 _ K0W2.out Tryd.underlying24 ?d31 I.out ?_); (case w31 => rfl); (case o31 => rfl); (case x31 => rfl); (case d31 => rfl)) | ((with_reducible refine wpList_blk_load_want (op := ⟨some 35, .load 24 (.tmp 5), _, _, _, _⟩) ?w35 24 (.tmp 5) ?o35 X5.heap.size ?x35 _ KbW2.out Tryd.underlying24 ?d35 I.out ?_); (case w35 => rfl); (case o35 => rfl); (case x35 => rfl); (case d35 => rfl)) | ((with_reducible refine wpList_blk_load_want (op := ⟨some 36, .load 24 (.tmp 1), _, _, _, _⟩) ?w36 24 (.tmp 1) ?o36 w.heap.size ?x36 _ K0W2.out Tryd.underlying24 ?d36 I.out ?_); (case w36 => rfl); (case o36 => rfl); (case x36 => rfl); (case d36 => rfl)))
    refine (awake_any _ (HE.out.below LW2.out)).mono ?_
    rintro e X6 ⟨rfl, hb⟩
    have LX6 := Lib.hid (LW2.out.trans (hb.mono LW2.out.size))
    clear hb heq
    go_wp2
    go_ret
    exact ⟨rfl, LX6.out⟩
  · rw [show vldA v bs = false by simpa using hv] at C6
    clear hc hadr hE hl hb hv
    go_enter Tryd.func3, Tryd.ntmps3
    go_wp2_with (((with_reducible refine wpList_blk_load (op := ⟨some 7, .load 24 (.tmp 1), _, _, _, _⟩) ?w7b 24 (.tmp 1) ?o7b w.heap.size ?x7b _ K0w.out Tryd.underlying24 ?d7b I.out ?_); (case w7b => rfl); (case o7b => rfl); (case x7b => rfl); (case d7b => rfl)))
    refine (C6.out _).mono ?_
    rintro e X1 ⟨rfl, hb⟩
    have LX1 := Lib.hid (Lw.out.trans (hb.mono Lw.out.size))
    clear hb
    go_wp2_with fail
    refine (awake_any _ (HE.out.below LX1.out)).mono ?_
    rintro e X2 ⟨rfl, hb⟩
    have LX2 := Lib.hid (LX1.out.trans (hb.mono LX1.out.size))
    clear hb
    go_wp2
    go_ret
    exact ⟨rfl, LX2.out⟩
end Go.Proofs.YtajnnplkmhlbiaaDoor
