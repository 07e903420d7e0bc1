/- The walk of AddrBytes. -/
import Derived.Test.YtjcmidgeddhfoaaDoorB4
import Derived.Deep.RegionHeld
namespace Go.Proofs.YtjcmidgeddhfoaaDoor
open Go.RowKit Go.Lib Go.Sort

set_option maxRecDepth 100000 in
set_option maxHeartbeats 4000000 in
theorem ab_sixteen (a : Option Addr) (cap : Nat) (bs : List Nat) (w : World) (hE : Env w) (hl : bs.length = 16) (hr : Rd w (.slice a 16 cap) (nus .u8 bs)) :
    Calls Tryd.prog 5 #[.slice a 16 cap] w fun e w' => e = .returned (.bool true) ∧ Below w.heap.size w w' := by
  have HE := Lib.hid hE
  have HR := Lib.hid hr
  obtain ⟨c, hc⟩ : ∃ c, c = cellsA true bs := ⟨_, rfl⟩
  have C10 := Lib.hid (show ∀ W, Rd W (.slice a 16 cap) (nus .u8 bs) → Calls Tryd.prog 10 #[.slice a 16 cap] W fun e w' => e = .returned (.tuple #[.agg c, .int .i64 0]) ∧ Below W.heap.size W w' from fun W h => by
    have hh := from_ok _ true bs W h (.inr ⟨hl, rfl⟩)
    rw [hl, show 16 - 16 = 0 from rfl, List.replicate_zero, List.append_nil] at hh
    rw [hc]
    exact hh)
  have C14 := Lib.hid (show ∀ W, Calls Tryd.prog 14 #[.agg c] W fun e w' => e = .returned (.bool true) ∧ Below W.heap.size W w' from fun W => by rw [hc]; exact valid_adr true bs hl (.inl rfl) W)
  have C11 := Lib.hid (show ∀ W, Calls Tryd.prog 11 #[.agg c] W fun e w' => ∃ z, e = .returned z ∧ Rd w' z (nus .u8 bs) ∧ Below W.heap.size W w' from fun W => by rw [hc]; exact bytes_adr true bs hl W)
  have Z := Lib.hid (show c.size = 17 by rw [hc, cellsA_size, hl])
  have hc0 : c[0]? = some (.bool true) := by rw [hc]; rfl
  have I := Lib.hid (i24.trans (congrArg some Z.out.symm))
  have S0 := Lib.hid (Z.out.trans (cellsA_size false (List.replicate 16 0)).symm)
  have A := Lib.hid (show c.all (·.oneCell') = true by rw [hc]; exact cellsA_all _ _)
  have HC0 := Lib.hid hc0
  obtain ⟨b, o, rfl, -⟩ := hr.cells (by omega)
  clear hE hr hl hc hc0
  go_enter Tryd.func5, Tryd.ntmps5
  go_wp2_with fail
  refine (C10.out _ HR.out).mono ?_
  rintro e X1 ⟨rfl, hb⟩
  have LX1 := Lib.hid hb
  clear hb
  go_wp2_with ((refine wpList_blk_store (op := ⟨none, .store 24 (.tmp 3) (.tmp 12), _, _, _, _⟩) rfl 24 (.tmp 3) (.tmp 12) rfl X1.heap.size c (by rfl) (by rfl) (Blk.new X1 24 (cellsA false (List.replicate 16 0))) S0.out I.out A.out ?_))
  intro W1 hA hF hB
  have LW1 := Lib.hid ((LX1.out.alloc LX1.out.size (.cells (cellsA false (List.replicate 16 0)) 24)).trans (hB _ LX1.out.size))
  have KaW1 := Lib.hid hA
  clear hA hF hB
  go_wp2_with fail
  refine wp_region_held (S := fun _ => True) (by kernel_rfl) ?_
  change wpAnyH _ _ _ _ _ _ _ _ W1.drew
  refine wpAnyH_take (i := 0) (oi := { dst := some 32, op := Op.move (Operand.tmp 0), type := 32, pos := "law.go:83", after := #[], guard := none }) (v := ?_) rfl (by kernel_rfl) (by kernel_rfl) (by kernel_rfl) (fun _ _ _ h => h) (Or.inl ⟨by rfl, ?_⟩) trivial ?_
  rotate_left
  · (intro w1 _; go_simp; try with_reducible rfl)
  simp only [Act.put, List.setIfInBounds_toArray, List.set_cons_zero, List.set_cons_succ]
  refine wpAnyH_take (i := 1) (oi := { dst := some 33, op := Op.call { callee := Callee.builtin Builtin.len, args := #[Operand.tmp 32], argTypes := #[32] }, type := 3, pos := "law.go:83", after := #[{ on := 0, ground := Ground.data }], guard := none }) (v := ?_) rfl (by kernel_rfl) (by kernel_rfl) (by kernel_rfl) (fun _ _ _ h => h) (Or.inl ⟨by rfl, ?_⟩) trivial ?_
  rotate_left
  · (intro w1 _; go_simp; try with_reducible rfl)
  simp only [Act.put, List.setIfInBounds_toArray, List.set_cons_zero, List.set_cons_succ]
  refine wpAnyH_take (i := 2) (oi := { dst := some 34, op := Op.binOp BinOp.eql 3 (Operand.tmp 33) (Operand.const (Value.int IntKind.i64 4)) 3, type := 4, pos := "law.go:83", after := #[{ on := 1, ground := Ground.data }], guard := none }) (v := ?_) rfl (by kernel_rfl) (by kernel_rfl) (by kernel_rfl) (fun _ _ _ h => h) (Or.inl ⟨by rfl, ?_⟩) trivial ?_
  rotate_left
  · (intro w1 _; go_simp; try with_reducible rfl)
  simp only [Act.put, List.setIfInBounds_toArray, List.set_cons_zero, List.set_cons_succ]
  refine wpAnyH_take (i := 3) (oi := { dst := some 35, op := Op.move (Operand.tmp 34), type := 4, pos := "law.go:83", after := #[{ on := 2, ground := Ground.data }], guard := none }) (v := .bool false) rfl (by kernel_rfl) (by kernel_rfl) (by kernel_rfl) (fun _ _ _ h => h) (Or.inl ⟨by rfl, ?_⟩) trivial ?_
  · (intro w1 _; go_simp; try with_reducible rfl)
  simp only [Act.put, List.setIfInBounds_toArray, List.set_cons_zero, List.set_cons_succ]
  refine wpAnyH_take (i := 4) (oi := { dst := some 36, op := Op.move (Operand.tmp 0), type := 32, pos := "law.go:83", after := #[{ on := 3, ground := Ground.guard }], guard := some (3, true) }) (v := undef) rfl (by kernel_rfl) (by kernel_rfl) (by kernel_rfl) (fun _ _ _ h => h) (Or.inr ⟨by rfl, rfl⟩) trivial ?_
  simp only [Act.put, List.setIfInBounds_toArray, List.set_cons_zero, List.set_cons_succ]
  refine wpAnyH_take (i := 5) (oi := { dst := some 37, op := Op.indexAddr 32 (Operand.tmp 36) (Operand.const (Value.int IntKind.i64 0)), type := 0, pos := "law.go:83", after := #[{ on := 4, ground := Ground.data }, { on := 3, ground := Ground.guard }], guard := some (3, true) }) (v := undef) rfl (by kernel_rfl) (by kernel_rfl) (by kernel_rfl) (fun _ _ _ h => h) (Or.inr ⟨by rfl, rfl⟩) trivial ?_
  simp only [Act.put, List.setIfInBounds_toArray, List.set_cons_zero, List.set_cons_succ]
  refine wpAnyH_take (i := 6) (oi := { dst := some 38, op := Op.load 5 (Operand.tmp 37), type := 5, pos := "law.go:83", after := #[{ on := 5, ground := Ground.data }, { on := 3, ground := Ground.guard }], guard := some (3, true) }) (v := undef) rfl (by kernel_rfl) (by kernel_rfl) (by kernel_rfl) (fun _ _ _ h => h) (Or.inr ⟨by rfl, rfl⟩) trivial ?_
  simp only [Act.put, List.setIfInBounds_toArray, List.set_cons_zero, List.set_cons_succ]
  refine wpAnyH_take (i := 7) (oi := { dst := some 39, op := Op.move (Operand.tmp 0), type := 32, pos := "law.go:83", after := #[{ on := 3, ground := Ground.guard }], guard := some (3, true) }) (v := undef) rfl (by kernel_rfl) (by kernel_rfl) (by kernel_rfl) (fun _ _ _ h => h) (Or.inr ⟨by rfl, rfl⟩) trivial ?_
  simp only [Act.put, List.setIfInBounds_toArray, List.set_cons_zero, List.set_cons_succ]
  refine wpAnyH_take (i := 8) (oi := { dst := some 40, op := Op.indexAddr 32 (Operand.tmp 39) (Operand.const (Value.int IntKind.i64 1)), type := 0, pos := "law.go:83", after := #[{ on := 7, ground := Ground.data }, { on := 3, ground := Ground.guard }], guard := some (3, true) }) (v := undef) rfl (by kernel_rfl) (by kernel_rfl) (by kernel_rfl) (fun _ _ _ h => h) (Or.inr ⟨by rfl, rfl⟩) trivial ?_
  simp only [Act.put, List.setIfInBounds_toArray, List.set_cons_zero, List.set_cons_succ]
  refine wpAnyH_take (i := 9) (oi := { dst := some 41, op := Op.load 5 (Operand.tmp 40), type := 5, pos := "law.go:83", after := #[{ on := 8, ground := Ground.data }, { on := 3, ground := Ground.guard }], guard := some (3, true) }) (v := undef) rfl (by kernel_rfl) (by kernel_rfl) (by kernel_rfl) (fun _ _ _ h => h) (Or.inr ⟨by rfl, rfl⟩) trivial ?_
  simp only [Act.put, List.setIfInBounds_toArray, List.set_cons_zero, List.set_cons_succ]
  refine wpAnyH_take (i := 10) (oi := { dst := some 42, op := Op.move (Operand.tmp 0), type := 32, pos := "law.go:83", after := #[{ on := 3, ground := Ground.guard }], guard := some (3, true) }) (v := undef) rfl (by kernel_rfl) (by kernel_rfl) (by kernel_rfl) (fun _ _ _ h => h) (Or.inr ⟨by rfl, rfl⟩) trivial ?_
  simp only [Act.put, List.setIfInBounds_toArray, List.set_cons_zero, List.set_cons_succ]
  refine wpAnyH_take (i := 11) (oi := { dst := some 43, op := Op.indexAddr 32 (Operand.tmp 42) (Operand.const (Value.int IntKind.i64 2)), type := 0, pos := "law.go:83", after := #[{ on := 10, ground := Ground.data }, { on := 3, ground := Ground.guard }], guard := some (3, true) }) (v := undef) rfl (by kernel_rfl) (by kernel_rfl) (by kernel_rfl) (fun _ _ _ h => h) (Or.inr ⟨by rfl, rfl⟩) trivial ?_
  simp only [Act.put, List.setIfInBounds_toArray, List.set_cons_zero, List.set_cons_succ]
  refine wpAnyH_take (i := 12) (oi := { dst := some 44, op := Op.load 5 (Operand.tmp 43), type := 5, pos := "law.go:83", after := #[{ on := 11, ground := Ground.data }, { on := 3, ground := Ground.guard }], guard := some (3, true) }) (v := undef) rfl (by kernel_rfl) (by kernel_rfl) (by kernel_rfl) (fun _ _ _ h => h) (Or.inr ⟨by rfl, rfl⟩) trivial ?_
  simp only [Act.put, List.setIfInBounds_toArray, List.set_cons_zero, List.set_cons_succ]
  refine wpAnyH_take (i := 13) (oi := { dst := some 45, op := Op.move (Operand.tmp 0), type := 32, pos := "law.go:83", after := #[{ on := 3, ground := Ground.guard }], guard := some (3, true) }) (v := undef) rfl (by kernel_rfl) (by kernel_rfl) (by kernel_rfl) (fun _ _ _ h => h) (Or.inr ⟨by rfl, rfl⟩) trivial ?_
  simp only [Act.put, List.setIfInBounds_toArray, List.set_cons_zero, List.set_cons_succ]
  refine wpAnyH_take (i := 14) (oi := { dst := some 46, op := Op.indexAddr 32 (Operand.tmp 45) (Operand.const (Value.int IntKind.i64 3)), type := 0, pos := "law.go:83", after := #[{ on := 13, ground := Ground.data }, { on := 3, ground := Ground.guard }], guard := some (3, true) }) (v := undef) rfl (by kernel_rfl) (by kernel_rfl) (by kernel_rfl) (fun _ _ _ h => h) (Or.inr ⟨by rfl, rfl⟩) trivial ?_
  simp only [Act.put, List.setIfInBounds_toArray, List.set_cons_zero, List.set_cons_succ]
  refine wpAnyH_take (i := 15) (oi := { dst := some 47, op := Op.load 5 (Operand.tmp 46), type := 5, pos := "law.go:83", after := #[{ on := 14, ground := Ground.data }, { on := 3, ground := Ground.guard }], guard := some (3, true) }) (v := undef) rfl (by kernel_rfl) (by kernel_rfl) (by kernel_rfl) (fun _ _ _ h => h) (Or.inr ⟨by rfl, rfl⟩) trivial ?_
  simp only [Act.put, List.setIfInBounds_toArray, List.set_cons_zero, List.set_cons_succ]
  refine wpAnyH_take (i := 16) (oi := { dst := some 48, op := Op.call { callee := Callee.value (Operand.func 13), args := #[Operand.tmp 38, Operand.tmp 41, Operand.tmp 44, Operand.tmp 47], argTypes := #[5, 5, 5, 5] }, type := 24, pos := "law.go:83", after := #[{ on := 6, ground := Ground.data }, { on := 9, ground := Ground.data }, { on := 12, ground := Ground.data }, { on := 15, ground := Ground.data }, { on := 3, ground := Ground.chain }, { on := 3, ground := Ground.guard }], guard := some (3, true) }) (v := undef) rfl (by kernel_rfl) (by kernel_rfl) (by kernel_rfl) (fun _ _ _ h => h) (Or.inr ⟨by rfl, rfl⟩) trivial ?_
  simp only [Act.put, List.setIfInBounds_toArray, List.set_cons_zero, List.set_cons_succ]
  refine wpAnyH_take (i := 17) (oi := { dst := some 49, op := Op.load 24 (Operand.tmp 3), type := 24, pos := "law.go:83", after := #[{ on := 3, ground := Ground.guard }], guard := some (3, true) }) (v := undef) rfl (by kernel_rfl) (by kernel_rfl) (by kernel_rfl) (fun _ _ _ h => h) (Or.inr ⟨by rfl, rfl⟩) trivial ?_
  simp only [Act.put, List.setIfInBounds_toArray, List.set_cons_zero, List.set_cons_succ]
  refine wpAnyH_take (i := 18) (oi := { dst := some 50, op := Op.binOp BinOp.neq 24 (Operand.tmp 48) (Operand.tmp 49) 24, type := 4, pos := "law.go:83", after := #[{ on := 16, ground := Ground.data }, { on := 17, ground := Ground.data }, { on := 3, ground := Ground.guard }], guard := some (3, true) }) (v := undef) rfl (by kernel_rfl) (by kernel_rfl) (by kernel_rfl) (fun _ _ _ h => h) (Or.inr ⟨by rfl, rfl⟩) trivial ?_
  simp only [Act.put, List.setIfInBounds_toArray, List.set_cons_zero, List.set_cons_succ]
  refine wpAnyH_take (i := 19) (oi := { dst := some 51, op := Op.pick (Operand.tmp 35) (Operand.tmp 50) (Operand.const (Value.bool false)), type := 4, pos := "law.go:83", after := #[{ on := 3, ground := Ground.data }, { on := 18, ground := Ground.data }], guard := none }) (v := .bool false) rfl (by kernel_rfl) (by kernel_rfl) (by kernel_rfl) (fun _ _ _ h => h) (Or.inl ⟨by rfl, ?_⟩) trivial ?_
  · (intro w1 _; go_simp; try with_reducible rfl)
  simp only [Act.put, List.setIfInBounds_toArray, List.set_cons_zero, List.set_cons_succ]
  refine wpAnyH_done (by kernel_rfl) ?_ _
  have LW2 := Lib.hid LW1.out.drew
  have KaW2 := Lib.hid KaW1.out.drew
  have HR2 := Lib.hid (HR.out.below LW2.out)
  generalize W1.drew = W2 at LW2 KaW2 HR2 ⊢
  clear HR LW1 KaW1
  go_wp2_with fail
  obtain ⟨T, hT⟩ : ∃ T, T = str bs := ⟨_, rfl⟩
  have hcv : ∀ W', Below W2.heap.size W2 W' → (convert 32 9 (.slice (some ⟨b, o, none⟩) 16 cap)).run Tryd.prog W' = .ok (.string T) W' := fun W' hW' => by rw [hT]; exact conv_rd W' 32 9 5 Tryd.underlying32 Tryd.underlying5 Tryd.underlying9 _ bs (HR2.out.below hW')
  have HCV := Lib.hid hcv
  have HT := Lib.hid hT
  have hS0 : (fun w' : World => Blk w' X1.heap.size 24 c ∧ (convert 32 9 (.slice (some ⟨b, o, none⟩) 16 cap)).run Tryd.prog w' = .ok (.string T) w') W2.drew := ⟨KaW2.out.drew, hcv _ (Below.refl _ _).drew⟩
  have HLD := Lib.hid (fun W (h : Blk W X1.heap.size 24 c) => run_blk_load (P := Tryd.prog) 24 X1.heap.size _ h Tryd.underlying24 rfl I.out)
  have hE2 : Below W2.heap.size W2 W2.drew := (Below.refl _ _).drew
  clear hcv hT
  refine wp_region_held (S := (fun w' : World => Blk w' X1.heap.size 24 c ∧ (convert 32 9 (.slice (some ⟨b, o, none⟩) 16 cap)).run Tryd.prog w' = .ok (.string T) w')) (by kernel_rfl) ?_
  change wpAnyH _ _ _ _ _ _ _ _ W2.drew
  generalize W2.drew = Y0 at hS0 hE2 ⊢
  have E0 := Lib.hid hE2
  clear hE2
  refine wpAnyH_take (i := 0) (oi := { dst := some 52, op := Op.move (Operand.tmp 4), type := 27, pos := "law.go:86", after := #[], guard := none }) (v := ?_) rfl (by kernel_rfl) (by kernel_rfl) (by kernel_rfl) (fun _ _ _ h => h) (Or.inl ⟨by rfl, ?_⟩) hS0 ?_
  rotate_left
  · (intro w1 hSw; obtain ⟨q1, q2⟩ := hSw; go_simp; try with_reducible rfl)
  simp only [Act.put, List.setIfInBounds_toArray, List.set_cons_zero, List.set_cons_succ]
  refine wpAnyH_take (i := 1) (oi := { dst := some 53, op := Op.binOp BinOp.eql 27 (Operand.tmp 52) (Operand.const (Value.int IntKind.i64 0)) 27, type := 4, pos := "law.go:86", after := #[{ on := 0, ground := Ground.data }], guard := none }) (v := ?_) rfl (by kernel_rfl) (by kernel_rfl) (by kernel_rfl) (fun _ _ _ h => h) (Or.inl ⟨by rfl, ?_⟩) hS0 ?_
  rotate_left
  · (intro w1 hSw; obtain ⟨q1, q2⟩ := hSw; go_simp; try with_reducible rfl)
  simp only [Act.put, List.setIfInBounds_toArray, List.set_cons_zero, List.set_cons_succ]
  refine wpAnyH_take (i := 2) (oi := { dst := some 54, op := Op.move (Operand.tmp 53), type := 4, pos := "law.go:86", after := #[{ on := 1, ground := Ground.data }], guard := none }) (v := ?_) rfl (by kernel_rfl) (by kernel_rfl) (by kernel_rfl) (fun _ _ _ h => h) (Or.inl ⟨by rfl, ?_⟩) hS0 ?_
  rotate_left
  · (intro w1 hSw; obtain ⟨q1, q2⟩ := hSw; go_simp; try with_reducible rfl)
  simp only [Act.put, List.setIfInBounds_toArray, List.set_cons_zero, List.set_cons_succ]
  refine wpAnyH_take (i := 3) (oi := { dst := some 55, op := Op.load 24 (Operand.tmp 3), type := 24, pos := "law.go:86", after := #[{ on := 2, ground := Ground.guard }], guard := some (2, true) }) (v := .agg c) rfl (by kernel_rfl) (by kernel_rfl) (by kernel_rfl) (fun _ _ _ h => h) (Or.inl ⟨by rfl, ?_⟩) hS0 ?_
  · (intro w1 hSw; obtain ⟨q1, q2⟩ := hSw; have hl := HLD.out w1 q1; unfold execOp; simp only [Instr.loadAt, Instr.sureAddr, Sem.run_bind, Sem.run_pure, Act.eval]; simp [hl, Result.andThen])
  simp only [Act.put, List.setIfInBounds_toArray, List.set_cons_zero, List.set_cons_succ]
  refine wpAnyH_ready (rs := [4]) (by kernel_rfl) (by simp) ?_
  refine AllReadyH.cons (o := { dst := some 56, op := Op.call { callee := Callee.value (Operand.func 14), args := #[Operand.tmp 55], argTypes := #[24] }, type := 4, pos := "law.go:86", after := #[{ on := 3, ground := Ground.data }, { on := 2, ground := Ground.chain }, { on := 2, ground := Ground.guard }], guard := some (2, true) }) rfl (fun K hK => ?_) AllReadyH.nil
  go_simp
  refine (C14.out _).mono ?_
  rintro e Y1 ⟨rfl, hy⟩
  have E1 := Lib.hid (E0.out.trans (hy.mono E0.out.size))
  have hS1 : (fun w' : World => Blk w' X1.heap.size 24 c ∧ (convert 32 9 (.slice (some ⟨b, o, none⟩) 16 cap)).run Tryd.prog w' = .ok (.string T) w') Y1 := ⟨hS0.1.below hy hS0.1.lt, HCV.out _ E1.out⟩
  clear hy hS0 E0
  refine hK.out _ _ hS1 (fun _ => ?_)
  clear hK K
  try simp only [Act.put, List.setIfInBounds_toArray, List.set_cons_zero, List.set_cons_succ]
  refine wpAnyH_take (i := 5) (oi := { dst := some 57, op := Op.pick (Operand.tmp 54) (Operand.tmp 56) (Operand.const (Value.bool false)), type := 4, pos := "law.go:86", after := #[{ on := 2, ground := Ground.data }, { on := 4, ground := Ground.data }], guard := none }) (v := ?_) rfl (by kernel_rfl) (by kernel_rfl) (by kernel_rfl) (fun _ _ _ h => h) (Or.inl ⟨by rfl, ?_⟩) hS1 ?_
  rotate_left
  · (intro w1 hSw; obtain ⟨q1, q2⟩ := hSw; go_simp; try with_reducible rfl)
  simp only [Act.put, List.setIfInBounds_toArray, List.set_cons_zero, List.set_cons_succ]
  refine wpAnyH_take (i := 6) (oi := { dst := some 58, op := Op.move (Operand.tmp 57), type := 4, pos := "law.go:86", after := #[{ on := 5, ground := Ground.data }, { on := 4, ground := Ground.chain }], guard := none }) (v := ?_) rfl (by kernel_rfl) (by kernel_rfl) (by kernel_rfl) (fun _ _ _ h => h) (Or.inl ⟨by rfl, ?_⟩) hS1 ?_
  rotate_left
  · (intro w1 hSw; obtain ⟨q1, q2⟩ := hSw; go_simp; try with_reducible rfl)
  simp only [Act.put, List.setIfInBounds_toArray, List.set_cons_zero, List.set_cons_succ]
  refine wpAnyH_take (i := 7) (oi := { dst := some 59, op := Op.fieldAddr 24 (Operand.tmp 3) 0, type := 0, pos := "law.go:86", after := #[{ on := 6, ground := Ground.guard }], guard := some (6, true) }) (v := ?_) rfl (by kernel_rfl) (by kernel_rfl) (by kernel_rfl) (fun _ _ _ h => h) (Or.inl ⟨by rfl, ?_⟩) hS1 ?_
  rotate_left
  · (intro w1 hSw; obtain ⟨q1, q2⟩ := hSw; go_simp; try with_reducible rfl)
  simp only [Act.put, List.setIfInBounds_toArray, List.set_cons_zero, List.set_cons_succ]
  refine wpAnyH_take (i := 8) (oi := { dst := some 60, op := Op.load 4 (Operand.tmp 59), type := 4, pos := "law.go:86", after := #[{ on := 7, ground := Ground.data }, { on := 6, ground := Ground.guard }], guard := some (6, true) }) (v := ?_) rfl (by kernel_rfl) (by kernel_rfl) (by kernel_rfl) (fun _ _ _ h => h) (Or.inl ⟨by rfl, ?_⟩) hS1 ?_
  rotate_left
  · (intro w1 hSw; obtain ⟨q1, q2⟩ := hSw; have q3 := (q1.cell 0).trans HC0.out; clear q1 q2; go_simp; try with_reducible rfl)
  simp only [Act.put, List.setIfInBounds_toArray, List.set_cons_zero, List.set_cons_succ]
  refine wpAnyH_take (i := 9) (oi := { dst := some 61, op := Op.move (Operand.tmp 0), type := 32, pos := "law.go:86", after := #[{ on := 6, ground := Ground.guard }], guard := some (6, true) }) (v := ?_) rfl (by kernel_rfl) (by kernel_rfl) (by kernel_rfl) (fun _ _ _ h => h) (Or.inl ⟨by rfl, ?_⟩) hS1 ?_
  rotate_left
  · (intro w1 hSw; obtain ⟨q1, q2⟩ := hSw; go_simp; try with_reducible rfl)
  simp only [Act.put, List.setIfInBounds_toArray, List.set_cons_zero, List.set_cons_succ]
  refine wpAnyH_take (i := 10) (oi := { dst := some 62, op := Op.call { callee := Callee.builtin Builtin.len, args := #[Operand.tmp 61], argTypes := #[32] }, type := 3, pos := "law.go:86", after := #[{ on := 9, ground := Ground.data }, { on := 6, ground := Ground.guard }], guard := some (6, true) }) (v := ?_) rfl (by kernel_rfl) (by kernel_rfl) (by kernel_rfl) (fun _ _ _ h => h) (Or.inl ⟨by rfl, ?_⟩) hS1 ?_
  rotate_left
  · (intro w1 hSw; obtain ⟨q1, q2⟩ := hSw; go_simp; try with_reducible rfl)
  simp only [Act.put, List.setIfInBounds_toArray, List.set_cons_zero, List.set_cons_succ]
  refine wpAnyH_take (i := 11) (oi := { dst := some 63, op := Op.binOp BinOp.eql 3 (Operand.tmp 62) (Operand.const (Value.int IntKind.i64 16)) 3, type := 4, pos := "law.go:86", after := #[{ on := 10, ground := Ground.data }, { on := 6, ground := Ground.guard }], guard := some (6, true) }) (v := ?_) rfl (by kernel_rfl) (by kernel_rfl) (by kernel_rfl) (fun _ _ _ h => h) (Or.inl ⟨by rfl, ?_⟩) hS1 ?_
  rotate_left
  · (intro w1 hSw; obtain ⟨q1, q2⟩ := hSw; go_simp; try with_reducible rfl)
  simp only [Act.put, List.setIfInBounds_toArray, List.set_cons_zero, List.set_cons_succ]
  refine wpAnyH_take (i := 12) (oi := { dst := some 64, op := Op.binOp BinOp.eql 4 (Operand.tmp 60) (Operand.tmp 63) 4, type := 4, pos := "law.go:86", after := #[{ on := 8, ground := Ground.data }, { on := 11, ground := Ground.data }, { on := 6, ground := Ground.guard }], guard := some (6, true) }) (v := ?_) rfl (by kernel_rfl) (by kernel_rfl) (by kernel_rfl) (fun _ _ _ h => h) (Or.inl ⟨by rfl, ?_⟩) hS1 ?_
  rotate_left
  · (intro w1 hSw; obtain ⟨q1, q2⟩ := hSw; go_simp; try with_reducible rfl)
  simp only [Act.put, List.setIfInBounds_toArray, List.set_cons_zero, List.set_cons_succ]
  refine wpAnyH_take (i := 13) (oi := { dst := some 65, op := Op.pick (Operand.tmp 58) (Operand.tmp 64) (Operand.const (Value.bool false)), type := 4, pos := "law.go:86", after := #[{ on := 6, ground := Ground.data }, { on := 12, ground := Ground.data }], guard := none }) (v := ?_) rfl (by kernel_rfl) (by kernel_rfl) (by kernel_rfl) (fun _ _ _ h => h) (Or.inl ⟨by rfl, ?_⟩) hS1 ?_
  rotate_left
  · (intro w1 hSw; obtain ⟨q1, q2⟩ := hSw; go_simp; try with_reducible rfl)
  simp only [Act.put, List.setIfInBounds_toArray, List.set_cons_zero, List.set_cons_succ]
  refine wpAnyH_take (i := 14) (oi := { dst := some 66, op := Op.move (Operand.tmp 65), type := 4, pos := "law.go:86", after := #[{ on := 13, ground := Ground.data }, { on := 6, ground := Ground.chain }], guard := none }) (v := ?_) rfl (by kernel_rfl) (by kernel_rfl) (by kernel_rfl) (fun _ _ _ h => h) (Or.inl ⟨by rfl, ?_⟩) hS1 ?_
  rotate_left
  · (intro w1 hSw; obtain ⟨q1, q2⟩ := hSw; go_simp; try with_reducible rfl)
  simp only [Act.put, List.setIfInBounds_toArray, List.set_cons_zero, List.set_cons_succ]
  refine wpAnyH_take (i := 15) (oi := { dst := some 67, op := Op.load 24 (Operand.tmp 3), type := 24, pos := "law.go:86", after := #[{ on := 14, ground := Ground.guard }], guard := some (14, true) }) (v := .agg c) rfl (by kernel_rfl) (by kernel_rfl) (by kernel_rfl) (fun _ _ _ h => h) (Or.inl ⟨by rfl, ?_⟩) hS1 ?_
  · (intro w1 hSw; obtain ⟨q1, q2⟩ := hSw; have hl := HLD.out w1 q1; unfold execOp; simp only [Instr.loadAt, Instr.sureAddr, Sem.run_bind, Sem.run_pure, Act.eval]; simp [hl, Result.andThen])
  simp only [Act.put, List.setIfInBounds_toArray, List.set_cons_zero, List.set_cons_succ]
  refine wpAnyH_take (i := 18) (oi := { dst := some 70, op := Op.move (Operand.tmp 0), type := 32, pos := "law.go:86", after := #[{ on := 14, ground := Ground.guard }], guard := some (14, true) }) (v := ?_) rfl (by kernel_rfl) (by kernel_rfl) (by kernel_rfl) (fun _ _ _ h => h) (Or.inl ⟨by rfl, ?_⟩) hS1 ?_
  rotate_left
  · (intro w1 hSw; obtain ⟨q1, q2⟩ := hSw; go_simp; try with_reducible rfl)
  simp only [Act.put, List.setIfInBounds_toArray, List.set_cons_zero, List.set_cons_succ]
  refine wpAnyH_take (i := 19) (oi := { dst := some 71, op := Op.convert 32 9 (Operand.tmp 70), type := 9, pos := "law.go:86", after := #[{ on := 18, ground := Ground.data }, { on := 14, ground := Ground.guard }], guard := some (14, true) }) (v := ?_) rfl (by kernel_rfl) (by kernel_rfl) (by kernel_rfl) (fun _ _ _ h => h) (Or.inl ⟨by rfl, ?_⟩) hS1 ?_
  rotate_left
  · (intro w1 hSw; obtain ⟨q1, q2⟩ := hSw; go_simp; try with_reducible rfl)
  simp only [Act.put, List.setIfInBounds_toArray, List.set_cons_zero, List.set_cons_succ]
  refine wpAnyH_ready (rs := [16]) (by kernel_rfl) (by simp) ?_
  refine AllReadyH.cons (o := { dst := some 68, op := Op.call { callee := Callee.value (Operand.func 11), args := #[Operand.tmp 67], argTypes := #[24] }, type := 32, pos := "law.go:86", after := #[{ on := 15, ground := Ground.data }, { on := 14, ground := Ground.chain }, { on := 14, ground := Ground.guard }], guard := some (14, true) }) rfl (fun K hK => ?_) AllReadyH.nil
  go_simp
  refine (C11.out _).mono ?_
  rintro e Y2 ⟨z, rfl, hz, hy⟩
  have E2 := Lib.hid (E1.out.trans (hy.mono E1.out.size))
  have hS2 : (fun w' : World => Blk w' X1.heap.size 24 c ∧ (convert 32 9 (.slice (some ⟨b, o, none⟩) 16 cap)).run Tryd.prog w' = .ok (.string T) w') Y2 := ⟨hS1.1.below hy hS1.1.lt, HCV.out _ E2.out⟩
  have hcz := conv_rd Y2 32 9 5 Tryd.underlying32 Tryd.underlying5 Tryd.underlying9 z bs hz
  rw [← HT.out] at hcz
  have HCZ := Lib.hid hcz
  clear hy hS1 E1 hz hcz
  refine hK.out _ _ hS2 (fun _ => ?_)
  clear hK K
  try simp only [Act.put, List.setIfInBounds_toArray, List.set_cons_zero, List.set_cons_succ]
  refine wpAnyH_ready (rs := [17]) (by kernel_rfl) (by simp) ?_
  refine AllReadyH.cons (o := { dst := some 69, op := Op.convert 32 9 (Operand.tmp 68), type := 9, pos := "law.go:86", after := #[{ on := 16, ground := Ground.data }, { on := 14, ground := Ground.guard }], guard := some (14, true) }) rfl (fun K hK => ?_) AllReadyH.nil
  have hcz := HCZ.out
  go_simp
  clear hcz
  refine hK.out _ _ hS2 (fun _ => ?_)
  clear hK K
  try simp only [Act.put, List.setIfInBounds_toArray, List.set_cons_zero, List.set_cons_succ]
  refine wpAnyH_take (i := 20) (oi := { dst := some 72, op := Op.binOp BinOp.eql 9 (Operand.tmp 69) (Operand.tmp 71) 9, type := 4, pos := "law.go:86", after := #[{ on := 17, ground := Ground.data }, { on := 19, ground := Ground.data }, { on := 14, ground := Ground.guard }], guard := some (14, true) }) (v := ?_) rfl (by kernel_rfl) (by kernel_rfl) (by kernel_rfl) (fun _ _ _ h => h) (Or.inl ⟨by rfl, ?_⟩) hS2 ?_
  rotate_left
  · (intro w1 hSw; obtain ⟨q1, q2⟩ := hSw; go_simp; try with_reducible rfl)
  simp only [Act.put, List.setIfInBounds_toArray, List.set_cons_zero, List.set_cons_succ]
  refine wpAnyH_take (i := 21) (oi := { dst := some 73, op := Op.pick (Operand.tmp 66) (Operand.tmp 72) (Operand.const (Value.bool false)), type := 4, pos := "law.go:86", after := #[{ on := 14, ground := Ground.data }, { on := 20, ground := Ground.data }], guard := none }) (v := ?_) rfl (by kernel_rfl) (by kernel_rfl) (by kernel_rfl) (fun _ _ _ h => h) (Or.inl ⟨by rfl, ?_⟩) hS2 ?_
  rotate_left
  · (intro w1 hSw; obtain ⟨q1, q2⟩ := hSw; go_simp; try with_reducible rfl)
  simp only [Act.put, List.setIfInBounds_toArray, List.set_cons_zero, List.set_cons_succ]
  refine wpAnyH_take (i := 22) (oi := { dst := some 74, op := Op.move (Operand.tmp 73), type := 4, pos := "law.go:86", after := #[{ on := 21, ground := Ground.data }, { on := 16, ground := Ground.chain }], guard := none }) (v := ?_) rfl (by kernel_rfl) (by kernel_rfl) (by kernel_rfl) (fun _ _ _ h => h) (Or.inl ⟨by rfl, ?_⟩) hS2 ?_
  rotate_left
  · (intro w1 hSw; obtain ⟨q1, q2⟩ := hSw; go_simp; try with_reducible rfl)
  simp only [Act.put, List.setIfInBounds_toArray, List.set_cons_zero, List.set_cons_succ]
  refine wpAnyH_ready (rs := [23]) (by kernel_rfl) (by simp) ?_
  refine AllReadyH.cons (o := { dst := some 75, op := Op.call { callee := Callee.value (Operand.func 7), args := #[], argTypes := #[] }, type := 4, pos := "law.go:86", after := #[{ on := 22, ground := Ground.chain }, { on := 22, ground := Ground.guard }], guard := some (22, true) }) rfl (fun K hK => ?_) AllReadyH.nil
  go_simp
  refine (awake_any _ (HE.out.below (LW2.out.trans (E2.out.mono LW2.out.size)))).mono ?_
  rintro e Y3 ⟨rfl, hy⟩
  have E3 := Lib.hid (E2.out.trans (hy.mono E2.out.size))
  have hS3 : (fun w' : World => Blk w' X1.heap.size 24 c ∧ (convert 32 9 (.slice (some ⟨b, o, none⟩) 16 cap)).run Tryd.prog w' = .ok (.string T) w') Y3 := ⟨hS2.1.below hy hS2.1.lt, HCV.out _ E3.out⟩
  clear hy hS2 E2
  refine hK.out _ _ hS3 (fun _ => ?_)
  clear hK K
  try simp only [Act.put, List.setIfInBounds_toArray, List.set_cons_zero, List.set_cons_succ]
  refine wpAnyH_take (i := 24) (oi := { dst := some 76, op := Op.pick (Operand.tmp 74) (Operand.tmp 75) (Operand.const (Value.bool false)), type := 4, pos := "law.go:86", after := #[{ on := 22, ground := Ground.data }, { on := 23, ground := Ground.data }], guard := none }) (v := ?_) rfl (by kernel_rfl) (by kernel_rfl) (by kernel_rfl) (fun _ _ _ h => h) (Or.inl ⟨by rfl, ?_⟩) hS3 ?_
  rotate_left
  · (intro w1 hSw; obtain ⟨q1, q2⟩ := hSw; go_simp; try with_reducible rfl)
  simp only [Act.put, List.setIfInBounds_toArray, List.set_cons_zero, List.set_cons_succ]
  refine wpAnyH_take (i := 25) (oi := { dst := some 2, op := Op.assign (Operand.tmp 76), type := 4, pos := "law.go:86", after := #[{ on := 24, ground := Ground.data }, { on := 23, ground := Ground.chain }, { on := 0, ground := Ground.phase }, { on := 1, ground := Ground.phase }, { on := 2, ground := Ground.phase }, { on := 3, ground := Ground.phase }, { on := 4, ground := Ground.phase }, { on := 5, ground := Ground.phase }, { on := 6, ground := Ground.phase }, { on := 7, ground := Ground.phase }, { on := 8, ground := Ground.phase }, { on := 9, ground := Ground.phase }, { on := 10, ground := Ground.phase }, { on := 11, ground := Ground.phase }, { on := 12, ground := Ground.phase }, { on := 13, ground := Ground.phase }, { on := 14, ground := Ground.phase }, { on := 15, ground := Ground.phase }, { on := 16, ground := Ground.phase }, { on := 17, ground := Ground.phase }, { on := 18, ground := Ground.phase }, { on := 19, ground := Ground.phase }, { on := 20, ground := Ground.phase }, { on := 21, ground := Ground.phase }, { on := 22, ground := Ground.phase }, { on := 23, ground := Ground.phase }, { on := 24, ground := Ground.phase }], guard := none }) (v := ?_) rfl (by kernel_rfl) (by kernel_rfl) (by kernel_rfl) (fun _ _ _ h => h) (Or.inl ⟨by rfl, ?_⟩) hS3 ?_
  rotate_left
  · (intro w1 hSw; obtain ⟨q1, q2⟩ := hSw; go_simp; try with_reducible rfl)
  simp only [Act.put, List.setIfInBounds_toArray, List.set_cons_zero, List.set_cons_succ]
  refine wpAnyH_done (by kernel_rfl) ?_ _
  go_wp2
  go_ret
  exact ⟨rfl, LW2.out.trans (E3.out.mono LW2.out.size)⟩

theorem ab_walk (a : Option Addr) (len cap : Nat) (bs : List Nat) (w : World) (hE : Env w) (hr : Rd w (.slice a len cap) (nus .u8 bs)) (hb : ∀ n ∈ bs, n < 256) :
    Calls Tryd.prog 5 #[.slice a len cap] w fun e w' => e = .returned (.bool true) ∧ Below w.heap.size w w' := by
  have hl : bs.length = len := by
    obtain ⟨_, _, e, _⟩ := hr
    simp only [Value.slice.injEq, nus_length] at e
    exact e.2.1.symm
  have hm : len ≤ maxLen := by rw [← hl]; have := hr.le; rwa [nus_length] at this
  by_cases h : 100 < len
  · exact ab_long a len cap w hE h hm
  · by_cases h4 : len = 4
    · subst h4
      match bs, hl with
      | [b0, b1, b2, b3], _ => exact ab_four a cap b0 b1 b2 b3 w hE hr hb
    · by_cases h16 : len = 16
      · subst h16
        exact ab_sixteen a cap bs w hE hl hr
      · exact ab_bad a len cap w hE (by omega) h4 h16
end Go.Proofs.YtjcmidgeddhfoaaDoor
