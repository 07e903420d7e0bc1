/- The walk of EtherTags. -/
import Derived.Test.YthbkboheeelbiaaES
namespace Go.Proofs.Ythbkboheeelbiaa
open Go.RowKit

theorem tags_four1_net (M L : List Nat) (tag : Nat) (hM : M.length = 12) : net (M ++ ([129, 0, tag / 256, tag % 256, 8, 0] ++ L)) = (18, 2048, 0) := by
  have hl : (M ++ ([129, 0, tag / 256, tag % 256, 8, 0] ++ L)).length = 18 + L.length := by simp [hM]; omega
  have hu : u2 (M ++ ([129, 0, tag / 256, tag % 256, 8, 0] ++ L)) 12 = 33024 := (u2_app M _ 12 0 hM).trans (by simp [u2])
  have hv : u2 (M ++ ([129, 0, tag / 256, tag % 256, 8, 0] ++ L)) 16 = 2048 := (u2_app M _ 12 4 hM).trans (by simp [u2])
  rw [net_tag _ (by omega) hu (by omega), hv]
  decide
theorem tags_six1_net (M L : List Nat) (tag : Nat) (hM : M.length = 12) : net (M ++ ([129, 0, tag / 256, tag % 256, 134, 221] ++ L)) = (18, 34525, 0) := by
  have hl : (M ++ ([129, 0, tag / 256, tag % 256, 134, 221] ++ L)).length = 18 + L.length := by simp [hM]; omega
  have hu : u2 (M ++ ([129, 0, tag / 256, tag % 256, 134, 221] ++ L)) 12 = 33024 := (u2_app M _ 12 0 hM).trans (by simp [u2])
  have hv : u2 (M ++ ([129, 0, tag / 256, tag % 256, 134, 221] ++ L)) 16 = 34525 := (u2_app M _ 12 4 hM).trans (by simp [u2])
  rw [net_tag _ (by omega) hu (by omega), hv]
  decide
theorem tags_two_net (M L : List Nat) (tag x y : Nat) (hM : M.length = 12) : net (M ++ ([129, 0, tag / 256, tag % 256, 129, 0, 0, 1, x, y] ++ L)) = (0, 0, 2) := by
  have hl : (M ++ ([129, 0, tag / 256, tag % 256, 129, 0, 0, 1, x, y] ++ L)).length = 22 + L.length := by simp [hM]; omega
  have hu : u2 (M ++ ([129, 0, tag / 256, tag % 256, 129, 0, 0, 1, x, y] ++ L)) 12 = 33024 := (u2_app M _ 12 0 hM).trans (by simp [u2])
  have hv : u2 (M ++ ([129, 0, tag / 256, tag % 256, 129, 0, 0, 1, x, y] ++ L)) 16 = 33024 := (u2_app M _ 12 4 hM).trans (by simp [u2])
  rw [net_tag _ (by omega) hu (by omega), hv]
  decide
theorem tags_four2_net (M L : List Nat) (tag : Nat) (hM : M.length = 12) : net (M ++ ([129, 0, tag / 256, tag % 256, 129, 0, 0, 1, 8, 0] ++ L)) = (0, 0, 2) := tags_two_net M L tag 8 0 hM
theorem tags_six2_net (M L : List Nat) (tag : Nat) (hM : M.length = 12) : net (M ++ ([129, 0, tag / 256, tag % 256, 129, 0, 0, 1, 134, 221] ++ L)) = (0, 0, 2) := tags_two_net M L tag 134 221 hM
theorem take16 (M L : List Nat) (tag x y : Nat) (hM : M.length = 12) : (M ++ ([129, 0, tag / 256, tag % 256, x, y] ++ L)).take 16 ++ bg 2 2048 = M ++ [129, 0, tag / 256, tag % 256, 8, 0] := by
  rw [List.take_append, List.take_of_length_le (by omega), hM]
  simp [bg]
theorem front16 (M : List Nat) (tag : Nat) (hM : M.length = 12) : (M ++ [129, 0, tag / 256, tag % 256, 8, 0]).take 16 = M ++ [129, 0, tag / 256, tag % 256] := by
  rw [List.take_append, List.take_of_length_le (by omega), hM]
  simp
theorem front16' (M L : List Nat) (tag x y : Nat) (hM : M.length = 12) : (M ++ ([129, 0, tag / 256, tag % 256, x, y] ++ L)).take 16 = M ++ [129, 0, tag / 256, tag % 256] := by
  rw [List.take_append, List.take_of_length_le (by omega), hM]
  simp
theorem getD_at16 (M : List Nat) (tag : Nat) (hM : M.length = 12) : (M ++ [129, 0, tag / 256, tag % 256, 8, 0]).getD 16 0 = 8 := getD_app M _ 12 4 hM
theorem getD_at17 (M : List Nat) (tag : Nat) (hM : M.length = 12) : (M ++ [129, 0, tag / 256, tag % 256, 8, 0]).getD 17 0 = 0 := getD_app M _ 12 5 hM
/-- A cell of a row that begins its block. -/
theorem cell_own {w : World} {g n c : Nat} {bs : List Nat} (h : Rd w (.slice (some ⟨g, 0, none⟩) n c) (nus .u8 bs)) (i : Nat) (hi : i < n) : w.cell? ⟨g, i, none⟩ = some (.int .u8 ((bs.getD i 0 : Nat) : Int)) := by
  obtain ⟨b, off, e, hc⟩ := h.cells (by omega)
  cases e
  have := hc i hi
  rwa [Nat.zero_add] at this

set_option maxRecDepth 100000 in
set_option maxHeartbeats 4000000 in
theorem tags_four1 (a a4 : Option Addr) (cap l4 cap4 : Nat) (M L : List Nat) (tag : Nat) (w : World) (hr : Rd w (.slice a 12 cap) (nus .u8 M)) (hna : a = none → cap = 0) (hM : M.length = 12) (hb : ∀ c ∈ M, c < 256)
    (ht : tag < 65536) (hr4 : Rd w (.slice a4 l4 cap4) (nus .u8 L)) (hn4 : a4 = none → cap4 = 0) (hL : L.length = l4) (hl4 : l4 ≤ 500) (hb4 : ∀ c ∈ L, c < 256) :
    Calls Try.prog 4 #[.slice a 12 cap, .int .u16 (tag : Int), .bool false, .bool false, .slice a4 l4 cap4] w fun e w' => e = .returned (.bool true) ∧ Below w.heap.size w w' := by
  have HR := Lib.hid hr
  have HA := Lib.hid hna
  have HM := Lib.hid hM
  have HB := Lib.hid hb
  have HR4 := Lib.hid hr4
  have HA4 := Lib.hid hn4
  have HL := Lib.hid hL
  have HB4 := Lib.hid hb4
  have hi1 : IntKind.u8.wrap ((tag : Int) / 256) = ((tag / 256 : Nat) : Int) := by rw [IntKind.wrap_u8]; omega
  have lo1 := lo_i64 tag
  have hdm := Lib.hid (show tag / 256 < 256 by omega)
  clear hr hna hM hb hr4 hn4 hL hb4
  go_enter Try.func4, Try.ntmps4
  have b1 := (Below.refl w.heap.size w).alloc (Nat.le_refl _) (.cells #[] 5)
  have O1 := Lib.hid (own_none w 5)
  have R1 := Lib.hid (HR.out.below b1)
  have B1 := Lib.hid b1
  clear b1
  go_wp2_with (at_builtin; refine wpList_app rfl (.tmp 26) (.tmp 27) rfl w.heap.size _ 0 [] rfl O1.out a 12 cap M rfl R1.out HA.out ?c2 ?c3 ?c4)
  case c2 => omega
  case c3 => exact B1.out.size
  intro v2 w2 o2 g2
  have O2 := Lib.hid (show w2.ownsRow w.heap.size 5 1 v2 12 (nus .u8 M) from o2)
  have B2 := Lib.hid (B1.out.grown g2 B1.out.size (fun k e => (O1.out.lt k e).1))
  clear o2 g2 O1 B1 R1 HR HA
  have ec : (#[.int .u8 129, .int .u8 0, .int .u8 ((tag : Int) / 256), .int .u8 ((tag : Int) % 256)] : Array Value) = (nus .u8 [129, 0, tag / 256, tag % 256]).toArray := by simp [nus]
  have b3 := (Below.refl w2.heap.size w2).alloc (Nat.le_refl _) (.cells (nus .u8 [129, 0, tag / 256, tag % 256]).toArray 5)
  have r3 := rd_lit w2 .u8 5 [129, 0, tag / 256, tag % 256] 4 (0, 0) rfl (by simp [maxLen])
  have O3a := Lib.hid (row_under O2.out b3)
  have R3a := Lib.hid r3
  have B3a := Lib.hid (B2.out.trans (b3.mono B2.out.size))
  clear b3 r3 O2 B2
  go_wp2_with (at_builtin; refine wpList_app rfl (.tmp 29) (.tmp 35) rfl w.heap.size _ 12 (M) rfl O3a.out (some _) 4 4 [129, 0, tag / 256, tag % 256] rfl R3a.out ?c31 ?c32 ?c33 ?c34)
  case c31 => intro e; cases e
  case c32 => omega
  case c33 => exact B3a.out.size
  intro v3 w3 o3 g3
  have O3 := Lib.hid (show w3.ownsRow w.heap.size 5 1 v3 16 (nus .u8 (M ++ [129, 0, tag / 256, tag % 256])) from o3)
  have B3 := Lib.hid (B3a.out.grown g3 B3a.out.size (fun k e => (O3a.out.lt k e).1))
  clear o3 g3 O3a R3a B3a
  clear ec hi1 lo1
  have b5 := (Below.refl w3.heap.size w3).alloc (Nat.le_refl _) (.cells (nus .u8 [8, 0]).toArray 5)
  have r5 := rd_lit w3 .u8 5 [8, 0] 2 (0, 0) rfl (by simp [maxLen])
  have O5a := Lib.hid (row_under O3.out b5)
  have R5a := Lib.hid r5
  have B5a := Lib.hid (B3.out.trans (b5.mono B3.out.size))
  clear b5 r5 O3 B3
  go_wp2_with (at_builtin; refine wpList_app rfl (.tmp 42) (.tmp 48) rfl w.heap.size _ 16 (M ++ [129, 0, tag / 256, tag % 256]) rfl O5a.out (some _) 2 2 [8, 0] rfl R5a.out ?c51 ?c52 ?c53 ?c54)
  case c51 => intro e; cases e
  case c52 => omega
  case c53 => exact B5a.out.size
  intro v5 w5 o5 g5
  have O5 := Lib.hid (show w5.ownsRow w.heap.size 5 1 v5 18 (nus .u8 (M ++ [129, 0, tag / 256, tag % 256, 8, 0])) from o5)
  have B5 := Lib.hid (B5a.out.grown g5 B5a.out.size (fun k e => (O5a.out.lt k e).1))
  clear o5 g5 O5a R5a B5a
  have R5 := Lib.hid (HR4.out.below B5.out)
  go_wp2_with (at_builtin; refine wpList_app rfl (.tmp 49) (.tmp 50) rfl w.heap.size _ 18 (M ++ [129, 0, tag / 256, tag % 256, 8, 0]) rfl O5.out a4 l4 cap4 L rfl R5.out HA4.out ?d2 ?d3 ?d4)
  case d2 => omega
  case d3 => exact B5.out.size
  intro v6 w6 o6 g6
  have B6 := Lib.hid (B5.out.grown g6 B5.out.size (fun k e => (O5.out.lt k e).1))
  have h6 := o6
  obtain ⟨-, ⟨rfl, h0⟩ | ⟨g, c6, cur, rfl, -, -, hc6, hm6, -⟩⟩ := h6
  · omega
  have R6 := Lib.hid (show Rd w6 (.slice (some ⟨g, 0, none⟩) (18 + l4) c6) (nus .u8 (M ++ ([129, 0, tag / 256, tag % 256, 8, 0] ++ L))) from by simpa using Rd.own o6)
  clear o6 g6 O5 B5 R5 HR4 HA4
  unfold maxLen at hm6
  have HZ : Hid (∀ c ∈ M ++ ([129, 0, tag / 256, tag % 256, 8, 0] ++ L), c < 256) := by
    show ∀ c ∈ _, c < 256
    have := hdm.out
    intro c hc
    rcases List.mem_append.1 hc with hc | hc
    · exact HB.out c hc
    · rcases List.mem_append.1 hc with hc | hc
      · simp only [List.mem_cons, List.not_mem_nil, or_false] at hc
        omega
      · exact HB4.out c hc
  have HN := Lib.hid (tags_four1_net M L tag HM.out)
  have NN := Lib.hid (net_any _ _ _ R6.out HZ.out)
  rw [HN.out] at NN
  go_wp2_with fail
  refine NN.out.mono ?_; rintro e w' ⟨rfl, rfl⟩
  clear NN
  go_wp2_with fail
  refine (with_yes _ _ 2048 16 _ R6.out HZ.out (by decide) (by rw [HN.out]) (by rw [HN.out]) (by rw [List.length_append, HM.out]; simp; omega) (by decide)).mono ?_
  rintro e W ⟨x, rfl, ho, hb⟩
  have B7 := Lib.hid (B6.out.trans (hb.mono B6.out.size))
  have RZ := Lib.hid (R6.out.below hb)
  have htk := take16 M L tag 8 0 HM.out
  have RX0 := Rd.own ho
  obtain ⟨-, ⟨rfl, h0⟩ | ⟨g7, c7, cur7, rfl, -, -, hc7, hm7, -⟩⟩ := ho
  · omega
  rw [htk] at RX0
  unfold maxLen at hm7
  have RX := Lib.hid RX0
  clear hb RX0 htk R6 B6 HN HZ
  have HT1 := Lib.hid (front16 M tag HM.out)
  have HT2 := Lib.hid (front16' M L tag 8 0 HM.out)
  obtain ⟨T, hT⟩ : ∃ T, T = str (M ++ [129, 0, tag / 256, tag % 256]) := ⟨_, rfl⟩
  have hcx : ∀ W', Below W.heap.size W W' → (convert 22 9 (.slice (some ⟨g7, 0, none⟩) 16 c7)).run Try.prog W' = .ok (.string T) W' := fun W' hW' => by
    have h := conv_rd W' 22 9 5 Try.underlying22 Try.underlying5 Try.underlying9 _ _ ((RX.out.front 16 (by simp [HM.out])).below hW')
    rw [HT1.out, ← hT] at h
    exact h
  have hcz : ∀ W', Below W.heap.size W W' → (convert 22 9 (.slice (some ⟨g, 0, none⟩) 16 c6)).run Try.prog W' = .ok (.string T) W' := fun W' hW' => by
    have h := conv_rd W' 22 9 5 Try.underlying22 Try.underlying5 Try.underlying9 _ _ ((RZ.out.front 16 (by simp [HM.out]; omega)).below hW')
    rw [HT2.out, ← hT] at h
    exact h
  have hd1 : ∀ W', Below W.heap.size W W' → W'.cell? ⟨g7, 16, none⟩ = some (.int .u8 8) := fun W' hW' => by
    have h := cell_own (RX.out.below hW') 16 (by decide)
    rw [getD_at16 M tag HM.out] at h
    exact h
  have hd2 : ∀ W', Below W.heap.size W W' → W'.cell? ⟨g7, 17, none⟩ = some (.int .u8 0) := fun W' hW' => by
    have h := cell_own (RX.out.below hW') 17 (by decide)
    rw [getD_at17 M tag HM.out] at h
    exact h
  have HCX := Lib.hid hcx
  have HCZ := Lib.hid hcz
  have HD1 := Lib.hid hd1
  have HD2 := Lib.hid hd2
  clear hcx hcz hd1 hd2 HT1 HT2 RX RZ hT HB HB4 HM
  have hws : IntKind.i64.wrap (2048 : Int) = 2048 := by decide
  go_wp2_with fail
  refine wp_region_held (S := (fun w' : World => Below W.heap.size W w')) (by kernel_rfl) ?_
  change wpAnyH _ _ _ _ _ _ _ _ W.drew
  have hE0 : Below W.heap.size W W.drew := (Below.refl _ _).drew
  generalize W.drew = Y0 at hE0 ⊢
  have E0 := Lib.hid hE0
  clear hE0
  refine wpAnyH_take (i := 0) (oi := { dst := some 74, op := Op.move (Operand.tmp 15), type := 3, pos := "law.go:56", after := #[], guard := none }) (v := ?_) rfl (by kernel_rfl) (by kernel_rfl) (by kernel_rfl) (fun _ _ _ h => h) (Or.inl ⟨by rfl, ?_⟩) E0.out ?_
  rotate_left
  · (intro w1 hS; go_simp; try with_reducible rfl)
  simp only [Act.put, List.setIfInBounds_toArray, List.set_cons_zero, List.set_cons_succ]
  refine wpAnyH_take (i := 1) (oi := { dst := some 75, op := Op.binOp BinOp.eql 3 (Operand.tmp 74) (Operand.const (Value.int IntKind.i64 0)) 3, type := 4, pos := "law.go:56", after := #[{ on := 0, ground := Ground.data }], guard := none }) (v := ?_) rfl (by kernel_rfl) (by kernel_rfl) (by kernel_rfl) (fun _ _ _ h => h) (Or.inl ⟨by rfl, ?_⟩) E0.out ?_
  rotate_left
  · (intro w1 hS; go_simp; try with_reducible rfl)
  simp only [Act.put, List.setIfInBounds_toArray, List.set_cons_zero, List.set_cons_succ]
  refine wpAnyH_take (i := 2) (oi := { dst := some 76, op := Op.move (Operand.tmp 75), type := 4, pos := "law.go:56", after := #[{ on := 1, ground := Ground.data }], guard := none }) (v := ?_) rfl (by kernel_rfl) (by kernel_rfl) (by kernel_rfl) (fun _ _ _ h => h) (Or.inl ⟨by rfl, ?_⟩) E0.out ?_
  rotate_left
  · (intro w1 hS; go_simp; try with_reducible rfl)
  simp only [Act.put, List.setIfInBounds_toArray, List.set_cons_zero, List.set_cons_succ]
  refine wpAnyH_take (i := 3) (oi := { dst := some 77, op := Op.move (Operand.tmp 13), type := 3, pos := "law.go:56", after := #[{ on := 2, ground := Ground.guard }], guard := some (2, true) }) (v := ?_) rfl (by kernel_rfl) (by kernel_rfl) (by kernel_rfl) (fun _ _ _ h => h) (Or.inl ⟨by rfl, ?_⟩) E0.out ?_
  rotate_left
  · (intro w1 hS; go_simp; try with_reducible rfl)
  simp only [Act.put, List.setIfInBounds_toArray, List.set_cons_zero, List.set_cons_succ]
  refine wpAnyH_take (i := 4) (oi := { dst := some 78, op := Op.binOp BinOp.eql 3 (Operand.tmp 77) (Operand.const (Value.int IntKind.i64 18)) 3, type := 4, pos := "law.go:56", after := #[{ on := 3, ground := Ground.data }, { on := 2, ground := Ground.guard }], guard := some (2, true) }) (v := ?_) rfl (by kernel_rfl) (by kernel_rfl) (by kernel_rfl) (fun _ _ _ h => h) (Or.inl ⟨by rfl, ?_⟩) E0.out ?_
  rotate_left
  · (intro w1 hS; go_simp; try with_reducible rfl)
  simp only [Act.put, List.setIfInBounds_toArray, List.set_cons_zero, List.set_cons_succ]
  refine wpAnyH_take (i := 5) (oi := { dst := some 79, op := Op.pick (Operand.tmp 76) (Operand.tmp 78) (Operand.const (Value.bool false)), type := 4, pos := "law.go:56", after := #[{ on := 2, ground := Ground.data }, { on := 4, ground := Ground.data }], guard := none }) (v := ?_) rfl (by kernel_rfl) (by kernel_rfl) (by kernel_rfl) (fun _ _ _ h => h) (Or.inl ⟨by rfl, ?_⟩) E0.out ?_
  rotate_left
  · (intro w1 hS; go_simp; try with_reducible rfl)
  simp only [Act.put, List.setIfInBounds_toArray, List.set_cons_zero, List.set_cons_succ]
  refine wpAnyH_take (i := 6) (oi := { dst := some 80, op := Op.move (Operand.tmp 79), type := 4, pos := "law.go:56", after := #[{ on := 5, ground := Ground.data }, { on := 2, ground := Ground.chain }], guard := none }) (v := ?_) rfl (by kernel_rfl) (by kernel_rfl) (by kernel_rfl) (fun _ _ _ h => h) (Or.inl ⟨by rfl, ?_⟩) E0.out ?_
  rotate_left
  · (intro w1 hS; go_simp; try with_reducible rfl)
  simp only [Act.put, List.setIfInBounds_toArray, List.set_cons_zero, List.set_cons_succ]
  refine wpAnyH_take (i := 7) (oi := { dst := some 81, op := Op.move (Operand.tmp 14), type := 23, pos := "law.go:56", after := #[{ on := 6, ground := Ground.guard }], guard := some (6, true) }) (v := ?_) rfl (by kernel_rfl) (by kernel_rfl) (by kernel_rfl) (fun _ _ _ h => h) (Or.inl ⟨by rfl, ?_⟩) E0.out ?_
  rotate_left
  · (intro w1 hS; go_simp; try with_reducible rfl)
  simp only [Act.put, List.setIfInBounds_toArray, List.set_cons_zero, List.set_cons_succ]
  refine wpAnyH_take (i := 8) (oi := { dst := some 82, op := Op.convert 23 3 (Operand.tmp 81), type := 3, pos := "law.go:56", after := #[{ on := 7, ground := Ground.data }, { on := 6, ground := Ground.guard }], guard := some (6, true) }) (v := ?_) rfl (by kernel_rfl) (by kernel_rfl) (by kernel_rfl) (fun _ _ _ h => h) (Or.inl ⟨by rfl, ?_⟩) E0.out ?_
  rotate_left
  · (intro w1 hS; go_simp; try with_reducible rfl)
  simp only [Act.put, List.setIfInBounds_toArray, List.set_cons_zero, List.set_cons_succ]
  refine wpAnyH_take (i := 9) (oi := { dst := some 83, op := Op.move (Operand.tmp 12), type := 3, pos := "law.go:56", after := #[{ on := 6, ground := Ground.guard }], guard := some (6, true) }) (v := ?_) rfl (by kernel_rfl) (by kernel_rfl) (by kernel_rfl) (fun _ _ _ h => h) (Or.inl ⟨by rfl, ?_⟩) E0.out ?_
  rotate_left
  · (intro w1 hS; go_simp; try with_reducible rfl)
  simp only [Act.put, List.setIfInBounds_toArray, List.set_cons_zero, List.set_cons_succ]
  refine wpAnyH_take (i := 10) (oi := { dst := some 84, op := Op.binOp BinOp.eql 3 (Operand.tmp 82) (Operand.tmp 83) 3, type := 4, pos := "law.go:56", after := #[{ on := 8, ground := Ground.data }, { on := 9, ground := Ground.data }, { on := 6, ground := Ground.guard }], guard := some (6, true) }) (v := ?_) rfl (by kernel_rfl) (by kernel_rfl) (by kernel_rfl) (fun _ _ _ h => h) (Or.inl ⟨by rfl, ?_⟩) E0.out ?_
  rotate_left
  · (intro w1 hS; go_simp; try with_reducible rfl)
  simp only [Act.put, List.setIfInBounds_toArray, List.set_cons_zero, List.set_cons_succ]
  refine wpAnyH_take (i := 11) (oi := { dst := some 85, op := Op.pick (Operand.tmp 80) (Operand.tmp 84) (Operand.const (Value.bool false)), type := 4, pos := "law.go:56", after := #[{ on := 6, ground := Ground.data }, { on := 10, ground := Ground.data }], guard := none }) (v := ?_) rfl (by kernel_rfl) (by kernel_rfl) (by kernel_rfl) (fun _ _ _ h => h) (Or.inl ⟨by rfl, ?_⟩) E0.out ?_
  rotate_left
  · (intro w1 hS; go_simp; try with_reducible rfl)
  simp only [Act.put, List.setIfInBounds_toArray, List.set_cons_zero, List.set_cons_succ]
  refine wpAnyH_take (i := 12) (oi := { dst := some 86, op := Op.move (Operand.tmp 85), type := 4, pos := "law.go:56", after := #[{ on := 11, ground := Ground.data }, { on := 6, ground := Ground.chain }], guard := none }) (v := ?_) rfl (by kernel_rfl) (by kernel_rfl) (by kernel_rfl) (fun _ _ _ h => h) (Or.inl ⟨by rfl, ?_⟩) E0.out ?_
  rotate_left
  · (intro w1 hS; go_simp; try with_reducible rfl)
  simp only [Act.put, List.setIfInBounds_toArray, List.set_cons_zero, List.set_cons_succ]
  refine wpAnyH_take (i := 13) (oi := { dst := some 87, op := Op.move (Operand.tmp 16), type := 22, pos := "law.go:56", after := #[{ on := 12, ground := Ground.guard }], guard := some (12, true) }) (v := ?_) rfl (by kernel_rfl) (by kernel_rfl) (by kernel_rfl) (fun _ _ _ h => h) (Or.inl ⟨by rfl, ?_⟩) E0.out ?_
  rotate_left
  · (intro w1 hS; go_simp; try with_reducible rfl)
  simp only [Act.put, List.setIfInBounds_toArray, List.set_cons_zero, List.set_cons_succ]
  refine wpAnyH_take (i := 14) (oi := { dst := some 88, op := Op.call { callee := Callee.builtin Builtin.len, args := #[Operand.tmp 87], argTypes := #[22] }, type := 3, pos := "law.go:56", after := #[{ on := 13, ground := Ground.data }, { on := 12, ground := Ground.guard }], guard := some (12, true) }) (v := ?_) rfl (by kernel_rfl) (by kernel_rfl) (by kernel_rfl) (fun _ _ _ h => h) (Or.inl ⟨by rfl, ?_⟩) E0.out ?_
  rotate_left
  · (intro w1 hS; go_simp; try with_reducible rfl)
  simp only [Act.put, List.setIfInBounds_toArray, List.set_cons_zero, List.set_cons_succ]
  refine wpAnyH_take (i := 15) (oi := { dst := some 89, op := Op.binOp BinOp.eql 3 (Operand.tmp 88) (Operand.const (Value.int IntKind.i64 18)) 3, type := 4, pos := "law.go:56", after := #[{ on := 14, ground := Ground.data }, { on := 12, ground := Ground.guard }], guard := some (12, true) }) (v := ?_) rfl (by kernel_rfl) (by kernel_rfl) (by kernel_rfl) (fun _ _ _ h => h) (Or.inl ⟨by rfl, ?_⟩) E0.out ?_
  rotate_left
  · (intro w1 hS; go_simp; try with_reducible rfl)
  simp only [Act.put, List.setIfInBounds_toArray, List.set_cons_zero, List.set_cons_succ]
  refine wpAnyH_take (i := 16) (oi := { dst := some 90, op := Op.pick (Operand.tmp 86) (Operand.tmp 89) (Operand.const (Value.bool false)), type := 4, pos := "law.go:56", after := #[{ on := 12, ground := Ground.data }, { on := 15, ground := Ground.data }], guard := none }) (v := ?_) rfl (by kernel_rfl) (by kernel_rfl) (by kernel_rfl) (fun _ _ _ h => h) (Or.inl ⟨by rfl, ?_⟩) E0.out ?_
  rotate_left
  · (intro w1 hS; go_simp; try with_reducible rfl)
  simp only [Act.put, List.setIfInBounds_toArray, List.set_cons_zero, List.set_cons_succ]
  refine wpAnyH_take (i := 17) (oi := { dst := some 91, op := Op.move (Operand.tmp 90), type := 4, pos := "law.go:56", after := #[{ on := 16, ground := Ground.data }, { on := 12, ground := Ground.chain }], guard := none }) (v := ?_) rfl (by kernel_rfl) (by kernel_rfl) (by kernel_rfl) (fun _ _ _ h => h) (Or.inl ⟨by rfl, ?_⟩) E0.out ?_
  rotate_left
  · (intro w1 hS; go_simp; try with_reducible rfl)
  simp only [Act.put, List.setIfInBounds_toArray, List.set_cons_zero, List.set_cons_succ]
  refine wpAnyH_take (i := 18) (oi := { dst := some 92, op := Op.move (Operand.tmp 16), type := 22, pos := "law.go:56", after := #[{ on := 17, ground := Ground.guard }], guard := some (17, true) }) (v := ?_) rfl (by kernel_rfl) (by kernel_rfl) (by kernel_rfl) (fun _ _ _ h => h) (Or.inl ⟨by rfl, ?_⟩) E0.out ?_
  rotate_left
  · (intro w1 hS; go_simp; try with_reducible rfl)
  simp only [Act.put, List.setIfInBounds_toArray, List.set_cons_zero, List.set_cons_succ]
  refine wpAnyH_take (i := 19) (oi := { dst := some 93, op := Op.slice 22 (Operand.tmp 92) none (some (Operand.const (Value.int IntKind.i64 16))) none, type := 22, pos := "law.go:56", after := #[{ on := 18, ground := Ground.data }, { on := 17, ground := Ground.guard }], guard := some (17, true) }) (v := ?_) rfl (by kernel_rfl) (by kernel_rfl) (by kernel_rfl) (fun _ _ _ h => h) (Or.inl ⟨by rfl, ?_⟩) E0.out ?_
  rotate_left
  · (intro w1 hS; have hW := hS; have q : (16 : Int) ≤ (c7 : Int) := (by omega); clear hW hS; go_simp; try with_reducible rfl)
  simp only [Act.put, List.setIfInBounds_toArray, List.set_cons_zero, List.set_cons_succ]
  refine wpAnyH_take (i := 20) (oi := { dst := some 94, op := Op.convert 22 9 (Operand.tmp 93), type := 9, pos := "law.go:56", after := #[{ on := 19, ground := Ground.data }, { on := 17, ground := Ground.guard }], guard := some (17, true) }) (v := ?_) rfl (by kernel_rfl) (by kernel_rfl) (by kernel_rfl) (fun _ _ _ h => h) (Or.inl ⟨by rfl, ?_⟩) E0.out ?_
  rotate_left
  · (intro w1 hS; have hW := hS; have q := HCX.out w1 hW; clear hW hS; go_simp; try with_reducible rfl)
  simp only [Act.put, List.setIfInBounds_toArray, List.set_cons_zero, List.set_cons_succ]
  refine wpAnyH_take (i := 21) (oi := { dst := some 95, op := Op.move (Operand.tmp 11), type := 22, pos := "law.go:56", after := #[{ on := 17, ground := Ground.guard }], guard := some (17, true) }) (v := ?_) rfl (by kernel_rfl) (by kernel_rfl) (by kernel_rfl) (fun _ _ _ h => h) (Or.inl ⟨by rfl, ?_⟩) E0.out ?_
  rotate_left
  · (intro w1 hS; go_simp; try with_reducible rfl)
  simp only [Act.put, List.setIfInBounds_toArray, List.set_cons_zero, List.set_cons_succ]
  refine wpAnyH_take (i := 22) (oi := { dst := some 96, op := Op.slice 22 (Operand.tmp 95) none (some (Operand.const (Value.int IntKind.i64 16))) none, type := 22, pos := "law.go:56", after := #[{ on := 21, ground := Ground.data }, { on := 17, ground := Ground.guard }], guard := some (17, true) }) (v := ?_) rfl (by kernel_rfl) (by kernel_rfl) (by kernel_rfl) (fun _ _ _ h => h) (Or.inl ⟨by rfl, ?_⟩) E0.out ?_
  rotate_left
  · (intro w1 hS; have hW := hS; have q : (16 : Int) ≤ (c6 : Int) := (by omega); clear hW hS; go_simp; try with_reducible rfl)
  simp only [Act.put, List.setIfInBounds_toArray, List.set_cons_zero, List.set_cons_succ]
  refine wpAnyH_take (i := 23) (oi := { dst := some 97, op := Op.convert 22 9 (Operand.tmp 96), type := 9, pos := "law.go:56", after := #[{ on := 22, ground := Ground.data }, { on := 17, ground := Ground.guard }], guard := some (17, true) }) (v := ?_) rfl (by kernel_rfl) (by kernel_rfl) (by kernel_rfl) (fun _ _ _ h => h) (Or.inl ⟨by rfl, ?_⟩) E0.out ?_
  rotate_left
  · (intro w1 hS; have hW := hS; have q := HCZ.out w1 hW; clear hW hS; go_simp; try with_reducible rfl)
  simp only [Act.put, List.setIfInBounds_toArray, List.set_cons_zero, List.set_cons_succ]
  refine wpAnyH_take (i := 24) (oi := { dst := some 98, op := Op.binOp BinOp.eql 9 (Operand.tmp 94) (Operand.tmp 97) 9, type := 4, pos := "law.go:56", after := #[{ on := 20, ground := Ground.data }, { on := 23, ground := Ground.data }, { on := 17, ground := Ground.guard }], guard := some (17, true) }) (v := ?_) rfl (by kernel_rfl) (by kernel_rfl) (by kernel_rfl) (fun _ _ _ h => h) (Or.inl ⟨by rfl, ?_⟩) E0.out ?_
  rotate_left
  · (intro w1 hS; go_simp; try with_reducible rfl)
  simp only [Act.put, List.setIfInBounds_toArray, List.set_cons_zero, List.set_cons_succ]
  refine wpAnyH_take (i := 25) (oi := { dst := some 99, op := Op.pick (Operand.tmp 91) (Operand.tmp 98) (Operand.const (Value.bool false)), type := 4, pos := "law.go:56", after := #[{ on := 17, ground := Ground.data }, { on := 24, ground := Ground.data }], guard := none }) (v := ?_) rfl (by kernel_rfl) (by kernel_rfl) (by kernel_rfl) (fun _ _ _ h => h) (Or.inl ⟨by rfl, ?_⟩) E0.out ?_
  rotate_left
  · (intro w1 hS; go_simp; try with_reducible rfl)
  simp only [Act.put, List.setIfInBounds_toArray, List.set_cons_zero, List.set_cons_succ]
  refine wpAnyH_take (i := 26) (oi := { dst := some 100, op := Op.move (Operand.tmp 99), type := 4, pos := "law.go:56", after := #[{ on := 25, ground := Ground.data }, { on := 17, ground := Ground.chain }], guard := none }) (v := ?_) rfl (by kernel_rfl) (by kernel_rfl) (by kernel_rfl) (fun _ _ _ h => h) (Or.inl ⟨by rfl, ?_⟩) E0.out ?_
  rotate_left
  · (intro w1 hS; go_simp; try with_reducible rfl)
  simp only [Act.put, List.setIfInBounds_toArray, List.set_cons_zero, List.set_cons_succ]
  refine wpAnyH_take (i := 27) (oi := { dst := some 101, op := Op.move (Operand.tmp 16), type := 22, pos := "law.go:56", after := #[{ on := 26, ground := Ground.guard }], guard := some (26, true) }) (v := ?_) rfl (by kernel_rfl) (by kernel_rfl) (by kernel_rfl) (fun _ _ _ h => h) (Or.inl ⟨by rfl, ?_⟩) E0.out ?_
  rotate_left
  · (intro w1 hS; go_simp; try with_reducible rfl)
  simp only [Act.put, List.setIfInBounds_toArray, List.set_cons_zero, List.set_cons_succ]
  refine wpAnyH_take (i := 28) (oi := { dst := some 102, op := Op.indexAddr 22 (Operand.tmp 101) (Operand.const (Value.int IntKind.i64 16)), type := 0, pos := "law.go:56", after := #[{ on := 27, ground := Ground.data }, { on := 26, ground := Ground.guard }], guard := some (26, true) }) (v := ?_) rfl (by kernel_rfl) (by kernel_rfl) (by kernel_rfl) (fun _ _ _ h => h) (Or.inl ⟨by rfl, ?_⟩) E0.out ?_
  rotate_left
  · (intro w1 hS; go_simp; try with_reducible rfl)
  simp only [Act.put, List.setIfInBounds_toArray, List.set_cons_zero, List.set_cons_succ]
  refine wpAnyH_take (i := 29) (oi := { dst := some 103, op := Op.load 5 (Operand.tmp 102), type := 5, pos := "law.go:56", after := #[{ on := 28, ground := Ground.data }, { on := 26, ground := Ground.guard }], guard := some (26, true) }) (v := ?_) rfl (by kernel_rfl) (by kernel_rfl) (by kernel_rfl) (fun _ _ _ h => h) (Or.inl ⟨by rfl, ?_⟩) E0.out ?_
  rotate_left
  · (intro w1 hS; have hW := hS; have q := HD1.out w1 hW; clear hW hS; go_simp; try with_reducible rfl)
  simp only [Act.put, List.setIfInBounds_toArray, List.set_cons_zero, List.set_cons_succ]
  refine wpAnyH_take (i := 30) (oi := { dst := some 104, op := Op.binOp BinOp.eql 5 (Operand.tmp 103) (Operand.const (Value.int IntKind.u8 8)) 5, type := 4, pos := "law.go:56", after := #[{ on := 29, ground := Ground.data }, { on := 26, ground := Ground.guard }], guard := some (26, true) }) (v := ?_) rfl (by kernel_rfl) (by kernel_rfl) (by kernel_rfl) (fun _ _ _ h => h) (Or.inl ⟨by rfl, ?_⟩) E0.out ?_
  rotate_left
  · (intro w1 hS; go_simp; try with_reducible rfl)
  simp only [Act.put, List.setIfInBounds_toArray, List.set_cons_zero, List.set_cons_succ]
  refine wpAnyH_take (i := 31) (oi := { dst := some 105, op := Op.pick (Operand.tmp 100) (Operand.tmp 104) (Operand.const (Value.bool false)), type := 4, pos := "law.go:56", after := #[{ on := 26, ground := Ground.data }, { on := 30, ground := Ground.data }], guard := none }) (v := ?_) rfl (by kernel_rfl) (by kernel_rfl) (by kernel_rfl) (fun _ _ _ h => h) (Or.inl ⟨by rfl, ?_⟩) E0.out ?_
  rotate_left
  · (intro w1 hS; go_simp; try with_reducible rfl)
  simp only [Act.put, List.setIfInBounds_toArray, List.set_cons_zero, List.set_cons_succ]
  refine wpAnyH_take (i := 32) (oi := { dst := some 106, op := Op.move (Operand.tmp 105), type := 4, pos := "law.go:56", after := #[{ on := 31, ground := Ground.data }, { on := 26, ground := Ground.chain }], guard := none }) (v := ?_) rfl (by kernel_rfl) (by kernel_rfl) (by kernel_rfl) (fun _ _ _ h => h) (Or.inl ⟨by rfl, ?_⟩) E0.out ?_
  rotate_left
  · (intro w1 hS; go_simp; try with_reducible rfl)
  simp only [Act.put, List.setIfInBounds_toArray, List.set_cons_zero, List.set_cons_succ]
  refine wpAnyH_take (i := 33) (oi := { dst := some 107, op := Op.move (Operand.tmp 16), type := 22, pos := "law.go:56", after := #[{ on := 32, ground := Ground.guard }], guard := some (32, true) }) (v := ?_) rfl (by kernel_rfl) (by kernel_rfl) (by kernel_rfl) (fun _ _ _ h => h) (Or.inl ⟨by rfl, ?_⟩) E0.out ?_
  rotate_left
  · (intro w1 hS; go_simp; try with_reducible rfl)
  simp only [Act.put, List.setIfInBounds_toArray, List.set_cons_zero, List.set_cons_succ]
  refine wpAnyH_take (i := 34) (oi := { dst := some 108, op := Op.indexAddr 22 (Operand.tmp 107) (Operand.const (Value.int IntKind.i64 17)), type := 0, pos := "law.go:56", after := #[{ on := 33, ground := Ground.data }, { on := 32, ground := Ground.guard }], guard := some (32, true) }) (v := ?_) rfl (by kernel_rfl) (by kernel_rfl) (by kernel_rfl) (fun _ _ _ h => h) (Or.inl ⟨by rfl, ?_⟩) E0.out ?_
  rotate_left
  · (intro w1 hS; go_simp; try with_reducible rfl)
  simp only [Act.put, List.setIfInBounds_toArray, List.set_cons_zero, List.set_cons_succ]
  refine wpAnyH_take (i := 35) (oi := { dst := some 109, op := Op.load 5 (Operand.tmp 108), type := 5, pos := "law.go:56", after := #[{ on := 34, ground := Ground.data }, { on := 32, ground := Ground.guard }], guard := some (32, true) }) (v := ?_) rfl (by kernel_rfl) (by kernel_rfl) (by kernel_rfl) (fun _ _ _ h => h) (Or.inl ⟨by rfl, ?_⟩) E0.out ?_
  rotate_left
  · (intro w1 hS; have hW := hS; have q := HD2.out w1 hW; clear hW hS; go_simp; try with_reducible rfl)
  simp only [Act.put, List.setIfInBounds_toArray, List.set_cons_zero, List.set_cons_succ]
  refine wpAnyH_take (i := 36) (oi := { dst := some 110, op := Op.binOp BinOp.eql 5 (Operand.tmp 109) (Operand.const (Value.int IntKind.u8 0)) 5, type := 4, pos := "law.go:56", after := #[{ on := 35, ground := Ground.data }, { on := 32, ground := Ground.guard }], guard := some (32, true) }) (v := ?_) rfl (by kernel_rfl) (by kernel_rfl) (by kernel_rfl) (fun _ _ _ h => h) (Or.inl ⟨by rfl, ?_⟩) E0.out ?_
  rotate_left
  · (intro w1 hS; go_simp; try with_reducible rfl)
  simp only [Act.put, List.setIfInBounds_toArray, List.set_cons_zero, List.set_cons_succ]
  refine wpAnyH_take (i := 37) (oi := { dst := some 111, op := Op.pick (Operand.tmp 106) (Operand.tmp 110) (Operand.const (Value.bool false)), type := 4, pos := "law.go:56", after := #[{ on := 32, ground := Ground.data }, { on := 36, ground := Ground.data }], guard := none }) (v := ?_) rfl (by kernel_rfl) (by kernel_rfl) (by kernel_rfl) (fun _ _ _ h => h) (Or.inl ⟨by rfl, ?_⟩) E0.out ?_
  rotate_left
  · (intro w1 hS; go_simp; try with_reducible rfl)
  simp only [Act.put, List.setIfInBounds_toArray, List.set_cons_zero, List.set_cons_succ]
  refine wpAnyH_take (i := 38) (oi := { dst := some 112, op := Op.move (Operand.tmp 111), type := 4, pos := "law.go:56", after := #[{ on := 37, ground := Ground.data }, { on := 32, ground := Ground.chain }], guard := none }) (v := ?_) rfl (by kernel_rfl) (by kernel_rfl) (by kernel_rfl) (fun _ _ _ h => h) (Or.inl ⟨by rfl, ?_⟩) E0.out ?_
  rotate_left
  · (intro w1 hS; go_simp; try with_reducible rfl)
  simp only [Act.put, List.setIfInBounds_toArray, List.set_cons_zero, List.set_cons_succ]
  refine wpAnyH_ready (rs := [39]) (by kernel_rfl) (by simp) ?_
  refine AllReadyH.cons (o := { dst := some 113, op := Op.call { callee := Callee.value (Operand.func 7), args := #[], argTypes := #[] }, type := 4, pos := "law.go:56", after := #[{ on := 38, ground := Ground.chain }, { on := 38, ground := Ground.guard }], guard := some (38, true) }) rfl (fun K hK => ?_) AllReadyH.nil
  go_simp
  refine (awake_any Y0).mono ?_
  rintro e Y1 ⟨rfl, hy⟩
  have E1 := Lib.hid (E0.out.trans (hy.mono E0.out.size))
  have C1 := Lib.hid E1.out
  clear hy E0
  refine hK.out _ _ C1.out (fun _ => ?_)
  clear hK K
  refine wpAnyH_mono (S' := (fun w' : World => Below Y1.heap.size Y1 w')) (fun w1 h => C1.out.trans (h.mono C1.out.size)) _ _ _ _ ?_
  clear C1
  try simp only [Act.put, List.setIfInBounds_toArray, List.set_cons_zero, List.set_cons_succ]
  refine wpAnyH_take (i := 40) (oi := { dst := some 114, op := Op.pick (Operand.tmp 112) (Operand.tmp 113) (Operand.const (Value.bool false)), type := 4, pos := "law.go:56", after := #[{ on := 38, ground := Ground.data }, { on := 39, ground := Ground.data }], guard := none }) (v := ?_) rfl (by kernel_rfl) (by kernel_rfl) (by kernel_rfl) (fun _ _ _ h => h) (Or.inl ⟨by rfl, ?_⟩) (Below.refl _ _) ?_
  rotate_left
  · (intro w1 hS; go_simp; try with_reducible rfl)
  simp only [Act.put, List.setIfInBounds_toArray, List.set_cons_zero, List.set_cons_succ]
  refine wpAnyH_take (i := 41) (oi := { dst := some 10, op := Op.assign (Operand.tmp 114), type := 4, pos := "law.go:56", after := #[{ on := 40, ground := Ground.data }, { on := 39, ground := Ground.chain }, { on := 0, ground := Ground.phase }, { on := 1, ground := Ground.phase }, { on := 2, ground := Ground.phase }, { on := 3, ground := Ground.phase }, { on := 4, ground := Ground.phase }, { on := 5, ground := Ground.phase }, { on := 6, ground := Ground.phase }, { on := 7, ground := Ground.phase }, { on := 8, ground := Ground.phase }, { on := 9, ground := Ground.phase }, { on := 10, ground := Ground.phase }, { on := 11, ground := Ground.phase }, { on := 12, ground := Ground.phase }, { on := 13, ground := Ground.phase }, { on := 14, ground := Ground.phase }, { on := 15, ground := Ground.phase }, { on := 16, ground := Ground.phase }, { on := 17, ground := Ground.phase }, { on := 18, ground := Ground.phase }, { on := 19, ground := Ground.phase }, { on := 20, ground := Ground.phase }, { on := 21, ground := Ground.phase }, { on := 22, ground := Ground.phase }, { on := 23, ground := Ground.phase }, { on := 24, ground := Ground.phase }, { on := 25, ground := Ground.phase }, { on := 26, ground := Ground.phase }, { on := 27, ground := Ground.phase }, { on := 28, ground := Ground.phase }, { on := 29, ground := Ground.phase }, { on := 30, ground := Ground.phase }, { on := 31, ground := Ground.phase }, { on := 32, ground := Ground.phase }, { on := 33, ground := Ground.phase }, { on := 34, ground := Ground.phase }, { on := 35, ground := Ground.phase }, { on := 36, ground := Ground.phase }, { on := 37, ground := Ground.phase }, { on := 38, ground := Ground.phase }, { on := 39, ground := Ground.phase }, { on := 40, ground := Ground.phase }], guard := none }) (v := ?_) rfl (by kernel_rfl) (by kernel_rfl) (by kernel_rfl) (fun _ _ _ h => h) (Or.inl ⟨by rfl, ?_⟩) (Below.refl _ _) ?_
  rotate_left
  · (intro w1 hS; go_simp; try with_reducible rfl)
  simp only [Act.put, List.setIfInBounds_toArray, List.set_cons_zero, List.set_cons_succ]
  refine wpAnyH_done (by kernel_rfl) ?_ _
  go_wp2
  go_ret
  exact ⟨rfl, B7.out.trans (E1.out.mono B7.out.size)⟩

set_option maxRecDepth 100000 in
set_option maxHeartbeats 4000000 in
theorem tags_four2 (a a4 : Option Addr) (cap l4 cap4 : Nat) (M L : List Nat) (tag : Nat) (w : World) (hr : Rd w (.slice a 12 cap) (nus .u8 M)) (hna : a = none → cap = 0) (hM : M.length = 12) (hb : ∀ c ∈ M, c < 256)
    (ht : tag < 65536) (hr4 : Rd w (.slice a4 l4 cap4) (nus .u8 L)) (hn4 : a4 = none → cap4 = 0) (hL : L.length = l4) (hl4 : l4 ≤ 500) (hb4 : ∀ c ∈ L, c < 256) :
    Calls Try.prog 4 #[.slice a 12 cap, .int .u16 (tag : Int), .bool false, .bool true, .slice a4 l4 cap4] w fun e w' => e = .returned (.bool true) ∧ Below w.heap.size w w' := by
  have HR := Lib.hid hr
  have HA := Lib.hid hna
  have HM := Lib.hid hM
  have HB := Lib.hid hb
  have HR4 := Lib.hid hr4
  have HA4 := Lib.hid hn4
  have HL := Lib.hid hL
  have HB4 := Lib.hid hb4
  have hi1 : IntKind.u8.wrap ((tag : Int) / 256) = ((tag / 256 : Nat) : Int) := by rw [IntKind.wrap_u8]; omega
  have lo1 := lo_i64 tag
  have hdm := Lib.hid (show tag / 256 < 256 by omega)
  clear hr hna hM hb hr4 hn4 hL hb4
  go_enter Try.func4, Try.ntmps4
  have b1 := (Below.refl w.heap.size w).alloc (Nat.le_refl _) (.cells #[] 5)
  have O1 := Lib.hid (own_none w 5)
  have R1 := Lib.hid (HR.out.below b1)
  have B1 := Lib.hid b1
  clear b1
  go_wp2_with (at_builtin; refine wpList_app rfl (.tmp 26) (.tmp 27) rfl w.heap.size _ 0 [] rfl O1.out a 12 cap M rfl R1.out HA.out ?c2 ?c3 ?c4)
  case c2 => omega
  case c3 => exact B1.out.size
  intro v2 w2 o2 g2
  have O2 := Lib.hid (show w2.ownsRow w.heap.size 5 1 v2 12 (nus .u8 M) from o2)
  have B2 := Lib.hid (B1.out.grown g2 B1.out.size (fun k e => (O1.out.lt k e).1))
  clear o2 g2 O1 B1 R1 HR HA
  have ec : (#[.int .u8 129, .int .u8 0, .int .u8 ((tag : Int) / 256), .int .u8 ((tag : Int) % 256)] : Array Value) = (nus .u8 [129, 0, tag / 256, tag % 256]).toArray := by simp [nus]
  have b3 := (Below.refl w2.heap.size w2).alloc (Nat.le_refl _) (.cells (nus .u8 [129, 0, tag / 256, tag % 256]).toArray 5)
  have r3 := rd_lit w2 .u8 5 [129, 0, tag / 256, tag % 256] 4 (0, 0) rfl (by simp [maxLen])
  have O3a := Lib.hid (row_under O2.out b3)
  have R3a := Lib.hid r3
  have B3a := Lib.hid (B2.out.trans (b3.mono B2.out.size))
  clear b3 r3 O2 B2
  go_wp2_with (at_builtin; refine wpList_app rfl (.tmp 29) (.tmp 35) rfl w.heap.size _ 12 (M) rfl O3a.out (some _) 4 4 [129, 0, tag / 256, tag % 256] rfl R3a.out ?c31 ?c32 ?c33 ?c34)
  case c31 => intro e; cases e
  case c32 => omega
  case c33 => exact B3a.out.size
  intro v3 w3 o3 g3
  have O3 := Lib.hid (show w3.ownsRow w.heap.size 5 1 v3 16 (nus .u8 (M ++ [129, 0, tag / 256, tag % 256])) from o3)
  have B3 := Lib.hid (B3a.out.grown g3 B3a.out.size (fun k e => (O3a.out.lt k e).1))
  clear o3 g3 O3a R3a B3a
  clear ec hi1 lo1
  have b4 := (Below.refl w3.heap.size w3).alloc (Nat.le_refl _) (.cells (nus .u8 [129, 0, 0, 1]).toArray 5)
  have r4 := rd_lit w3 .u8 5 [129, 0, 0, 1] 4 (0, 0) rfl (by simp [maxLen])
  have O4a := Lib.hid (row_under O3.out b4)
  have R4a := Lib.hid r4
  have B4a := Lib.hid (B3.out.trans (b4.mono B3.out.size))
  clear b4 r4 O3 B3
  go_wp2_with (at_builtin; refine wpList_app rfl (.tmp 39) (.tmp 40) rfl w.heap.size _ 16 (M ++ [129, 0, tag / 256, tag % 256]) rfl O4a.out (some _) 4 4 [129, 0, 0, 1] rfl R4a.out ?c41 ?c42 ?c43 ?c44)
  case c41 => intro e; cases e
  case c42 => omega
  case c43 => exact B4a.out.size
  intro v4 w4 o4 g4
  have O4 := Lib.hid (show w4.ownsRow w.heap.size 5 1 v4 20 (nus .u8 (M ++ [129, 0, tag / 256, tag % 256, 129, 0, 0, 1])) from o4)
  have B4 := Lib.hid (B4a.out.grown g4 B4a.out.size (fun k e => (O4a.out.lt k e).1))
  clear o4 g4 O4a R4a B4a
  have b5 := (Below.refl w4.heap.size w4).alloc (Nat.le_refl _) (.cells (nus .u8 [8, 0]).toArray 5)
  have r5 := rd_lit w4 .u8 5 [8, 0] 2 (0, 0) rfl (by simp [maxLen])
  have O5a := Lib.hid (row_under O4.out b5)
  have R5a := Lib.hid r5
  have B5a := Lib.hid (B4.out.trans (b5.mono B4.out.size))
  clear b5 r5 O4 B4
  go_wp2_with (at_builtin; refine wpList_app rfl (.tmp 42) (.tmp 48) rfl w.heap.size _ 20 (M ++ [129, 0, tag / 256, tag % 256, 129, 0, 0, 1]) rfl O5a.out (some _) 2 2 [8, 0] rfl R5a.out ?c51 ?c52 ?c53 ?c54)
  case c51 => intro e; cases e
  case c52 => omega
  case c53 => exact B5a.out.size
  intro v5 w5 o5 g5
  have O5 := Lib.hid (show w5.ownsRow w.heap.size 5 1 v5 22 (nus .u8 (M ++ [129, 0, tag / 256, tag % 256, 129, 0, 0, 1, 8, 0])) from o5)
  have B5 := Lib.hid (B5a.out.grown g5 B5a.out.size (fun k e => (O5a.out.lt k e).1))
  clear o5 g5 O5a R5a B5a
  have R5 := Lib.hid (HR4.out.below B5.out)
  go_wp2_with (at_builtin; refine wpList_app rfl (.tmp 49) (.tmp 50) rfl w.heap.size _ 22 (M ++ [129, 0, tag / 256, tag % 256, 129, 0, 0, 1, 8, 0]) rfl O5.out a4 l4 cap4 L rfl R5.out HA4.out ?d2 ?d3 ?d4)
  case d2 => omega
  case d3 => exact B5.out.size
  intro v6 w6 o6 g6
  have B6 := Lib.hid (B5.out.grown g6 B5.out.size (fun k e => (O5.out.lt k e).1))
  have h6 := o6
  obtain ⟨-, ⟨rfl, h0⟩ | ⟨g, c6, cur, rfl, -, -, hc6, hm6, -⟩⟩ := h6
  · omega
  have R6 := Lib.hid (show Rd w6 (.slice (some ⟨g, 0, none⟩) (22 + l4) c6) (nus .u8 (M ++ ([129, 0, tag / 256, tag % 256, 129, 0, 0, 1, 8, 0] ++ L))) from by simpa using Rd.own o6)
  clear o6 g6 O5 B5 R5 HR4 HA4
  unfold maxLen at hm6
  have HZ : Hid (∀ c ∈ M ++ ([129, 0, tag / 256, tag % 256, 129, 0, 0, 1, 8, 0] ++ L), c < 256) := by
    show ∀ c ∈ _, c < 256
    have := hdm.out
    intro c hc
    rcases List.mem_append.1 hc with hc | hc
    · exact HB.out c hc
    · rcases List.mem_append.1 hc with hc | hc
      · simp only [List.mem_cons, List.not_mem_nil, or_false] at hc
        omega
      · exact HB4.out c hc
  have HN := Lib.hid (tags_four2_net M L tag HM.out)
  have NN := Lib.hid (net_any _ _ _ R6.out HZ.out)
  rw [HN.out] at NN
  go_wp2_with fail
  refine NN.out.mono ?_; rintro e w' ⟨rfl, rfl⟩
  clear HZ HN NN R6 HB HB4 HM
  go_wp2_with fail
  refine (awake_any _).mono ?_
  rintro e w7 ⟨rfl, hb⟩
  go_wp2
  go_ret
  exact ⟨rfl, B6.out.trans (hb.mono B6.out.size)⟩

set_option maxRecDepth 100000 in
set_option maxHeartbeats 4000000 in
theorem tags_six1 (a a4 : Option Addr) (cap l4 cap4 : Nat) (M L : List Nat) (tag : Nat) (w : World) (hr : Rd w (.slice a 12 cap) (nus .u8 M)) (hna : a = none → cap = 0) (hM : M.length = 12) (hb : ∀ c ∈ M, c < 256)
    (ht : tag < 65536) (hr4 : Rd w (.slice a4 l4 cap4) (nus .u8 L)) (hn4 : a4 = none → cap4 = 0) (hL : L.length = l4) (hl4 : l4 ≤ 500) (hb4 : ∀ c ∈ L, c < 256) :
    Calls Try.prog 4 #[.slice a 12 cap, .int .u16 (tag : Int), .bool true, .bool false, .slice a4 l4 cap4] w fun e w' => e = .returned (.bool true) ∧ Below w.heap.size w w' := by
  have HR := Lib.hid hr
  have HA := Lib.hid hna
  have HM := Lib.hid hM
  have HB := Lib.hid hb
  have HR4 := Lib.hid hr4
  have HA4 := Lib.hid hn4
  have HL := Lib.hid hL
  have HB4 := Lib.hid hb4
  have hi1 : IntKind.u8.wrap ((tag : Int) / 256) = ((tag / 256 : Nat) : Int) := by rw [IntKind.wrap_u8]; omega
  have lo1 := lo_i64 tag
  have hdm := Lib.hid (show tag / 256 < 256 by omega)
  clear hr hna hM hb hr4 hn4 hL hb4
  go_enter Try.func4, Try.ntmps4
  have b1 := (Below.refl w.heap.size w).alloc (Nat.le_refl _) (.cells #[] 5)
  have O1 := Lib.hid (own_none w 5)
  have R1 := Lib.hid (HR.out.below b1)
  have B1 := Lib.hid b1
  clear b1
  go_wp2_with (at_builtin; refine wpList_app rfl (.tmp 26) (.tmp 27) rfl w.heap.size _ 0 [] rfl O1.out a 12 cap M rfl R1.out HA.out ?c2 ?c3 ?c4)
  case c2 => omega
  case c3 => exact B1.out.size
  intro v2 w2 o2 g2
  have O2 := Lib.hid (show w2.ownsRow w.heap.size 5 1 v2 12 (nus .u8 M) from o2)
  have B2 := Lib.hid (B1.out.grown g2 B1.out.size (fun k e => (O1.out.lt k e).1))
  clear o2 g2 O1 B1 R1 HR HA
  have ec : (#[.int .u8 129, .int .u8 0, .int .u8 ((tag : Int) / 256), .int .u8 ((tag : Int) % 256)] : Array Value) = (nus .u8 [129, 0, tag / 256, tag % 256]).toArray := by simp [nus]
  have b3 := (Below.refl w2.heap.size w2).alloc (Nat.le_refl _) (.cells (nus .u8 [129, 0, tag / 256, tag % 256]).toArray 5)
  have r3 := rd_lit w2 .u8 5 [129, 0, tag / 256, tag % 256] 4 (0, 0) rfl (by simp [maxLen])
  have O3a := Lib.hid (row_under O2.out b3)
  have R3a := Lib.hid r3
  have B3a := Lib.hid (B2.out.trans (b3.mono B2.out.size))
  clear b3 r3 O2 B2
  go_wp2_with (at_builtin; refine wpList_app rfl (.tmp 29) (.tmp 35) rfl w.heap.size _ 12 (M) rfl O3a.out (some _) 4 4 [129, 0, tag / 256, tag % 256] rfl R3a.out ?c31 ?c32 ?c33 ?c34)
  case c31 => intro e; cases e
  case c32 => omega
  case c33 => exact B3a.out.size
  intro v3 w3 o3 g3
  have O3 := Lib.hid (show w3.ownsRow w.heap.size 5 1 v3 16 (nus .u8 (M ++ [129, 0, tag / 256, tag % 256])) from o3)
  have B3 := Lib.hid (B3a.out.grown g3 B3a.out.size (fun k e => (O3a.out.lt k e).1))
  clear o3 g3 O3a R3a B3a
  clear ec hi1 lo1
  have b5 := (Below.refl w3.heap.size w3).alloc (Nat.le_refl _) (.cells (nus .u8 [134, 221]).toArray 5)
  have r5 := rd_lit w3 .u8 5 [134, 221] 2 (0, 0) rfl (by simp [maxLen])
  have O5a := Lib.hid (row_under O3.out b5)
  have R5a := Lib.hid r5
  have B5a := Lib.hid (B3.out.trans (b5.mono B3.out.size))
  clear b5 r5 O3 B3
  go_wp2_with (at_builtin; refine wpList_app rfl (.tmp 42) (.tmp 48) rfl w.heap.size _ 16 (M ++ [129, 0, tag / 256, tag % 256]) rfl O5a.out (some _) 2 2 [134, 221] rfl R5a.out ?c51 ?c52 ?c53 ?c54)
  case c51 => intro e; cases e
  case c52 => omega
  case c53 => exact B5a.out.size
  intro v5 w5 o5 g5
  have O5 := Lib.hid (show w5.ownsRow w.heap.size 5 1 v5 18 (nus .u8 (M ++ [129, 0, tag / 256, tag % 256, 134, 221])) from o5)
  have B5 := Lib.hid (B5a.out.grown g5 B5a.out.size (fun k e => (O5a.out.lt k e).1))
  clear o5 g5 O5a R5a B5a
  have R5 := Lib.hid (HR4.out.below B5.out)
  go_wp2_with (at_builtin; refine wpList_app rfl (.tmp 49) (.tmp 50) rfl w.heap.size _ 18 (M ++ [129, 0, tag / 256, tag % 256, 134, 221]) rfl O5.out a4 l4 cap4 L rfl R5.out HA4.out ?d2 ?d3 ?d4)
  case d2 => omega
  case d3 => exact B5.out.size
  intro v6 w6 o6 g6
  have B6 := Lib.hid (B5.out.grown g6 B5.out.size (fun k e => (O5.out.lt k e).1))
  have h6 := o6
  obtain ⟨-, ⟨rfl, h0⟩ | ⟨g, c6, cur, rfl, -, -, hc6, hm6, -⟩⟩ := h6
  · omega
  have R6 := Lib.hid (show Rd w6 (.slice (some ⟨g, 0, none⟩) (18 + l4) c6) (nus .u8 (M ++ ([129, 0, tag / 256, tag % 256, 134, 221] ++ L))) from by simpa using Rd.own o6)
  clear o6 g6 O5 B5 R5 HR4 HA4
  unfold maxLen at hm6
  have HZ : Hid (∀ c ∈ M ++ ([129, 0, tag / 256, tag % 256, 134, 221] ++ L), c < 256) := by
    show ∀ c ∈ _, c < 256
    have := hdm.out
    intro c hc
    rcases List.mem_append.1 hc with hc | hc
    · exact HB.out c hc
    · rcases List.mem_append.1 hc with hc | hc
      · simp only [List.mem_cons, List.not_mem_nil, or_false] at hc
        omega
      · exact HB4.out c hc
  have HN := Lib.hid (tags_six1_net M L tag HM.out)
  have NN := Lib.hid (net_any _ _ _ R6.out HZ.out)
  rw [HN.out] at NN
  go_wp2_with fail
  refine NN.out.mono ?_; rintro e w' ⟨rfl, rfl⟩
  clear NN
  go_wp2_with fail
  refine (with_yes _ _ 2048 16 _ R6.out HZ.out (by decide) (by rw [HN.out]) (by rw [HN.out]) (by rw [List.length_append, HM.out]; simp; omega) (by decide)).mono ?_
  rintro e W ⟨x, rfl, ho, hb⟩
  have B7 := Lib.hid (B6.out.trans (hb.mono B6.out.size))
  have RZ := Lib.hid (R6.out.below hb)
  have htk := take16 M L tag 134 221 HM.out
  have RX0 := Rd.own ho
  obtain ⟨-, ⟨rfl, h0⟩ | ⟨g7, c7, cur7, rfl, -, -, hc7, hm7, -⟩⟩ := ho
  · omega
  rw [htk] at RX0
  unfold maxLen at hm7
  have RX := Lib.hid RX0
  clear hb RX0 htk R6 B6 HN HZ
  have HT1 := Lib.hid (front16 M tag HM.out)
  have HT2 := Lib.hid (front16' M L tag 134 221 HM.out)
  obtain ⟨T, hT⟩ : ∃ T, T = str (M ++ [129, 0, tag / 256, tag % 256]) := ⟨_, rfl⟩
  have hcx : ∀ W', Below W.heap.size W W' → (convert 22 9 (.slice (some ⟨g7, 0, none⟩) 16 c7)).run Try.prog W' = .ok (.string T) W' := fun W' hW' => by
    have h := conv_rd W' 22 9 5 Try.underlying22 Try.underlying5 Try.underlying9 _ _ ((RX.out.front 16 (by simp [HM.out])).below hW')
    rw [HT1.out, ← hT] at h
    exact h
  have hcz : ∀ W', Below W.heap.size W W' → (convert 22 9 (.slice (some ⟨g, 0, none⟩) 16 c6)).run Try.prog W' = .ok (.string T) W' := fun W' hW' => by
    have h := conv_rd W' 22 9 5 Try.underlying22 Try.underlying5 Try.underlying9 _ _ ((RZ.out.front 16 (by simp [HM.out]; omega)).below hW')
    rw [HT2.out, ← hT] at h
    exact h
  have hd1 : ∀ W', Below W.heap.size W W' → W'.cell? ⟨g7, 16, none⟩ = some (.int .u8 8) := fun W' hW' => by
    have h := cell_own (RX.out.below hW') 16 (by decide)
    rw [getD_at16 M tag HM.out] at h
    exact h
  have hd2 : ∀ W', Below W.heap.size W W' → W'.cell? ⟨g7, 17, none⟩ = some (.int .u8 0) := fun W' hW' => by
    have h := cell_own (RX.out.below hW') 17 (by decide)
    rw [getD_at17 M tag HM.out] at h
    exact h
  have HCX := Lib.hid hcx
  have HCZ := Lib.hid hcz
  have HD1 := Lib.hid hd1
  have HD2 := Lib.hid hd2
  clear hcx hcz hd1 hd2 HT1 HT2 RX RZ hT HB HB4 HM
  have hws : IntKind.i64.wrap (34525 : Int) = 34525 := by decide
  go_wp2_with fail
  refine wp_region_held (S := (fun w' : World => Below W.heap.size W w')) (by kernel_rfl) ?_
  change wpAnyH _ _ _ _ _ _ _ _ W.drew
  have hE0 : Below W.heap.size W W.drew := (Below.refl _ _).drew
  generalize W.drew = Y0 at hE0 ⊢
  have E0 := Lib.hid hE0
  clear hE0
  refine wpAnyH_take (i := 0) (oi := { dst := some 74, op := Op.move (Operand.tmp 15), type := 3, pos := "law.go:56", after := #[], guard := none }) (v := ?_) rfl (by kernel_rfl) (by kernel_rfl) (by kernel_rfl) (fun _ _ _ h => h) (Or.inl ⟨by rfl, ?_⟩) E0.out ?_
  rotate_left
  · (intro w1 hS; go_simp; try with_reducible rfl)
  simp only [Act.put, List.setIfInBounds_toArray, List.set_cons_zero, List.set_cons_succ]
  refine wpAnyH_take (i := 1) (oi := { dst := some 75, op := Op.binOp BinOp.eql 3 (Operand.tmp 74) (Operand.const (Value.int IntKind.i64 0)) 3, type := 4, pos := "law.go:56", after := #[{ on := 0, ground := Ground.data }], guard := none }) (v := ?_) rfl (by kernel_rfl) (by kernel_rfl) (by kernel_rfl) (fun _ _ _ h => h) (Or.inl ⟨by rfl, ?_⟩) E0.out ?_
  rotate_left
  · (intro w1 hS; go_simp; try with_reducible rfl)
  simp only [Act.put, List.setIfInBounds_toArray, List.set_cons_zero, List.set_cons_succ]
  refine wpAnyH_take (i := 2) (oi := { dst := some 76, op := Op.move (Operand.tmp 75), type := 4, pos := "law.go:56", after := #[{ on := 1, ground := Ground.data }], guard := none }) (v := ?_) rfl (by kernel_rfl) (by kernel_rfl) (by kernel_rfl) (fun _ _ _ h => h) (Or.inl ⟨by rfl, ?_⟩) E0.out ?_
  rotate_left
  · (intro w1 hS; go_simp; try with_reducible rfl)
  simp only [Act.put, List.setIfInBounds_toArray, List.set_cons_zero, List.set_cons_succ]
  refine wpAnyH_take (i := 3) (oi := { dst := some 77, op := Op.move (Operand.tmp 13), type := 3, pos := "law.go:56", after := #[{ on := 2, ground := Ground.guard }], guard := some (2, true) }) (v := ?_) rfl (by kernel_rfl) (by kernel_rfl) (by kernel_rfl) (fun _ _ _ h => h) (Or.inl ⟨by rfl, ?_⟩) E0.out ?_
  rotate_left
  · (intro w1 hS; go_simp; try with_reducible rfl)
  simp only [Act.put, List.setIfInBounds_toArray, List.set_cons_zero, List.set_cons_succ]
  refine wpAnyH_take (i := 4) (oi := { dst := some 78, op := Op.binOp BinOp.eql 3 (Operand.tmp 77) (Operand.const (Value.int IntKind.i64 18)) 3, type := 4, pos := "law.go:56", after := #[{ on := 3, ground := Ground.data }, { on := 2, ground := Ground.guard }], guard := some (2, true) }) (v := ?_) rfl (by kernel_rfl) (by kernel_rfl) (by kernel_rfl) (fun _ _ _ h => h) (Or.inl ⟨by rfl, ?_⟩) E0.out ?_
  rotate_left
  · (intro w1 hS; go_simp; try with_reducible rfl)
  simp only [Act.put, List.setIfInBounds_toArray, List.set_cons_zero, List.set_cons_succ]
  refine wpAnyH_take (i := 5) (oi := { dst := some 79, op := Op.pick (Operand.tmp 76) (Operand.tmp 78) (Operand.const (Value.bool false)), type := 4, pos := "law.go:56", after := #[{ on := 2, ground := Ground.data }, { on := 4, ground := Ground.data }], guard := none }) (v := ?_) rfl (by kernel_rfl) (by kernel_rfl) (by kernel_rfl) (fun _ _ _ h => h) (Or.inl ⟨by rfl, ?_⟩) E0.out ?_
  rotate_left
  · (intro w1 hS; go_simp; try with_reducible rfl)
  simp only [Act.put, List.setIfInBounds_toArray, List.set_cons_zero, List.set_cons_succ]
  refine wpAnyH_take (i := 6) (oi := { dst := some 80, op := Op.move (Operand.tmp 79), type := 4, pos := "law.go:56", after := #[{ on := 5, ground := Ground.data }, { on := 2, ground := Ground.chain }], guard := none }) (v := ?_) rfl (by kernel_rfl) (by kernel_rfl) (by kernel_rfl) (fun _ _ _ h => h) (Or.inl ⟨by rfl, ?_⟩) E0.out ?_
  rotate_left
  · (intro w1 hS; go_simp; try with_reducible rfl)
  simp only [Act.put, List.setIfInBounds_toArray, List.set_cons_zero, List.set_cons_succ]
  refine wpAnyH_take (i := 7) (oi := { dst := some 81, op := Op.move (Operand.tmp 14), type := 23, pos := "law.go:56", after := #[{ on := 6, ground := Ground.guard }], guard := some (6, true) }) (v := ?_) rfl (by kernel_rfl) (by kernel_rfl) (by kernel_rfl) (fun _ _ _ h => h) (Or.inl ⟨by rfl, ?_⟩) E0.out ?_
  rotate_left
  · (intro w1 hS; go_simp; try with_reducible rfl)
  simp only [Act.put, List.setIfInBounds_toArray, List.set_cons_zero, List.set_cons_succ]
  refine wpAnyH_take (i := 8) (oi := { dst := some 82, op := Op.convert 23 3 (Operand.tmp 81), type := 3, pos := "law.go:56", after := #[{ on := 7, ground := Ground.data }, { on := 6, ground := Ground.guard }], guard := some (6, true) }) (v := ?_) rfl (by kernel_rfl) (by kernel_rfl) (by kernel_rfl) (fun _ _ _ h => h) (Or.inl ⟨by rfl, ?_⟩) E0.out ?_
  rotate_left
  · (intro w1 hS; go_simp; try with_reducible rfl)
  simp only [Act.put, List.setIfInBounds_toArray, List.set_cons_zero, List.set_cons_succ]
  refine wpAnyH_take (i := 9) (oi := { dst := some 83, op := Op.move (Operand.tmp 12), type := 3, pos := "law.go:56", after := #[{ on := 6, ground := Ground.guard }], guard := some (6, true) }) (v := ?_) rfl (by kernel_rfl) (by kernel_rfl) (by kernel_rfl) (fun _ _ _ h => h) (Or.inl ⟨by rfl, ?_⟩) E0.out ?_
  rotate_left
  · (intro w1 hS; go_simp; try with_reducible rfl)
  simp only [Act.put, List.setIfInBounds_toArray, List.set_cons_zero, List.set_cons_succ]
  refine wpAnyH_take (i := 10) (oi := { dst := some 84, op := Op.binOp BinOp.eql 3 (Operand.tmp 82) (Operand.tmp 83) 3, type := 4, pos := "law.go:56", after := #[{ on := 8, ground := Ground.data }, { on := 9, ground := Ground.data }, { on := 6, ground := Ground.guard }], guard := some (6, true) }) (v := ?_) rfl (by kernel_rfl) (by kernel_rfl) (by kernel_rfl) (fun _ _ _ h => h) (Or.inl ⟨by rfl, ?_⟩) E0.out ?_
  rotate_left
  · (intro w1 hS; go_simp; try with_reducible rfl)
  simp only [Act.put, List.setIfInBounds_toArray, List.set_cons_zero, List.set_cons_succ]
  refine wpAnyH_take (i := 11) (oi := { dst := some 85, op := Op.pick (Operand.tmp 80) (Operand.tmp 84) (Operand.const (Value.bool false)), type := 4, pos := "law.go:56", after := #[{ on := 6, ground := Ground.data }, { on := 10, ground := Ground.data }], guard := none }) (v := ?_) rfl (by kernel_rfl) (by kernel_rfl) (by kernel_rfl) (fun _ _ _ h => h) (Or.inl ⟨by rfl, ?_⟩) E0.out ?_
  rotate_left
  · (intro w1 hS; go_simp; try with_reducible rfl)
  simp only [Act.put, List.setIfInBounds_toArray, List.set_cons_zero, List.set_cons_succ]
  refine wpAnyH_take (i := 12) (oi := { dst := some 86, op := Op.move (Operand.tmp 85), type := 4, pos := "law.go:56", after := #[{ on := 11, ground := Ground.data }, { on := 6, ground := Ground.chain }], guard := none }) (v := ?_) rfl (by kernel_rfl) (by kernel_rfl) (by kernel_rfl) (fun _ _ _ h => h) (Or.inl ⟨by rfl, ?_⟩) E0.out ?_
  rotate_left
  · (intro w1 hS; go_simp; try with_reducible rfl)
  simp only [Act.put, List.setIfInBounds_toArray, List.set_cons_zero, List.set_cons_succ]
  refine wpAnyH_take (i := 13) (oi := { dst := some 87, op := Op.move (Operand.tmp 16), type := 22, pos := "law.go:56", after := #[{ on := 12, ground := Ground.guard }], guard := some (12, true) }) (v := ?_) rfl (by kernel_rfl) (by kernel_rfl) (by kernel_rfl) (fun _ _ _ h => h) (Or.inl ⟨by rfl, ?_⟩) E0.out ?_
  rotate_left
  · (intro w1 hS; go_simp; try with_reducible rfl)
  simp only [Act.put, List.setIfInBounds_toArray, List.set_cons_zero, List.set_cons_succ]
  refine wpAnyH_take (i := 14) (oi := { dst := some 88, op := Op.call { callee := Callee.builtin Builtin.len, args := #[Operand.tmp 87], argTypes := #[22] }, type := 3, pos := "law.go:56", after := #[{ on := 13, ground := Ground.data }, { on := 12, ground := Ground.guard }], guard := some (12, true) }) (v := ?_) rfl (by kernel_rfl) (by kernel_rfl) (by kernel_rfl) (fun _ _ _ h => h) (Or.inl ⟨by rfl, ?_⟩) E0.out ?_
  rotate_left
  · (intro w1 hS; go_simp; try with_reducible rfl)
  simp only [Act.put, List.setIfInBounds_toArray, List.set_cons_zero, List.set_cons_succ]
  refine wpAnyH_take (i := 15) (oi := { dst := some 89, op := Op.binOp BinOp.eql 3 (Operand.tmp 88) (Operand.const (Value.int IntKind.i64 18)) 3, type := 4, pos := "law.go:56", after := #[{ on := 14, ground := Ground.data }, { on := 12, ground := Ground.guard }], guard := some (12, true) }) (v := ?_) rfl (by kernel_rfl) (by kernel_rfl) (by kernel_rfl) (fun _ _ _ h => h) (Or.inl ⟨by rfl, ?_⟩) E0.out ?_
  rotate_left
  · (intro w1 hS; go_simp; try with_reducible rfl)
  simp only [Act.put, List.setIfInBounds_toArray, List.set_cons_zero, List.set_cons_succ]
  refine wpAnyH_take (i := 16) (oi := { dst := some 90, op := Op.pick (Operand.tmp 86) (Operand.tmp 89) (Operand.const (Value.bool false)), type := 4, pos := "law.go:56", after := #[{ on := 12, ground := Ground.data }, { on := 15, ground := Ground.data }], guard := none }) (v := ?_) rfl (by kernel_rfl) (by kernel_rfl) (by kernel_rfl) (fun _ _ _ h => h) (Or.inl ⟨by rfl, ?_⟩) E0.out ?_
  rotate_left
  · (intro w1 hS; go_simp; try with_reducible rfl)
  simp only [Act.put, List.setIfInBounds_toArray, List.set_cons_zero, List.set_cons_succ]
  refine wpAnyH_take (i := 17) (oi := { dst := some 91, op := Op.move (Operand.tmp 90), type := 4, pos := "law.go:56", after := #[{ on := 16, ground := Ground.data }, { on := 12, ground := Ground.chain }], guard := none }) (v := ?_) rfl (by kernel_rfl) (by kernel_rfl) (by kernel_rfl) (fun _ _ _ h => h) (Or.inl ⟨by rfl, ?_⟩) E0.out ?_
  rotate_left
  · (intro w1 hS; go_simp; try with_reducible rfl)
  simp only [Act.put, List.setIfInBounds_toArray, List.set_cons_zero, List.set_cons_succ]
  refine wpAnyH_take (i := 18) (oi := { dst := some 92, op := Op.move (Operand.tmp 16), type := 22, pos := "law.go:56", after := #[{ on := 17, ground := Ground.guard }], guard := some (17, true) }) (v := ?_) rfl (by kernel_rfl) (by kernel_rfl) (by kernel_rfl) (fun _ _ _ h => h) (Or.inl ⟨by rfl, ?_⟩) E0.out ?_
  rotate_left
  · (intro w1 hS; go_simp; try with_reducible rfl)
  simp only [Act.put, List.setIfInBounds_toArray, List.set_cons_zero, List.set_cons_succ]
  refine wpAnyH_take (i := 19) (oi := { dst := some 93, op := Op.slice 22 (Operand.tmp 92) none (some (Operand.const (Value.int IntKind.i64 16))) none, type := 22, pos := "law.go:56", after := #[{ on := 18, ground := Ground.data }, { on := 17, ground := Ground.guard }], guard := some (17, true) }) (v := ?_) rfl (by kernel_rfl) (by kernel_rfl) (by kernel_rfl) (fun _ _ _ h => h) (Or.inl ⟨by rfl, ?_⟩) E0.out ?_
  rotate_left
  · (intro w1 hS; have hW := hS; have q : (16 : Int) ≤ (c7 : Int) := (by omega); clear hW hS; go_simp; try with_reducible rfl)
  simp only [Act.put, List.setIfInBounds_toArray, List.set_cons_zero, List.set_cons_succ]
  refine wpAnyH_take (i := 20) (oi := { dst := some 94, op := Op.convert 22 9 (Operand.tmp 93), type := 9, pos := "law.go:56", after := #[{ on := 19, ground := Ground.data }, { on := 17, ground := Ground.guard }], guard := some (17, true) }) (v := ?_) rfl (by kernel_rfl) (by kernel_rfl) (by kernel_rfl) (fun _ _ _ h => h) (Or.inl ⟨by rfl, ?_⟩) E0.out ?_
  rotate_left
  · (intro w1 hS; have hW := hS; have q := HCX.out w1 hW; clear hW hS; go_simp; try with_reducible rfl)
  simp only [Act.put, List.setIfInBounds_toArray, List.set_cons_zero, List.set_cons_succ]
  refine wpAnyH_take (i := 21) (oi := { dst := some 95, op := Op.move (Operand.tmp 11), type := 22, pos := "law.go:56", after := #[{ on := 17, ground := Ground.guard }], guard := some (17, true) }) (v := ?_) rfl (by kernel_rfl) (by kernel_rfl) (by kernel_rfl) (fun _ _ _ h => h) (Or.inl ⟨by rfl, ?_⟩) E0.out ?_
  rotate_left
  · (intro w1 hS; go_simp; try with_reducible rfl)
  simp only [Act.put, List.setIfInBounds_toArray, List.set_cons_zero, List.set_cons_succ]
  refine wpAnyH_take (i := 22) (oi := { dst := some 96, op := Op.slice 22 (Operand.tmp 95) none (some (Operand.const (Value.int IntKind.i64 16))) none, type := 22, pos := "law.go:56", after := #[{ on := 21, ground := Ground.data }, { on := 17, ground := Ground.guard }], guard := some (17, true) }) (v := ?_) rfl (by kernel_rfl) (by kernel_rfl) (by kernel_rfl) (fun _ _ _ h => h) (Or.inl ⟨by rfl, ?_⟩) E0.out ?_
  rotate_left
  · (intro w1 hS; have hW := hS; have q : (16 : Int) ≤ (c6 : Int) := (by omega); clear hW hS; go_simp; try with_reducible rfl)
  simp only [Act.put, List.setIfInBounds_toArray, List.set_cons_zero, List.set_cons_succ]
  refine wpAnyH_take (i := 23) (oi := { dst := some 97, op := Op.convert 22 9 (Operand.tmp 96), type := 9, pos := "law.go:56", after := #[{ on := 22, ground := Ground.data }, { on := 17, ground := Ground.guard }], guard := some (17, true) }) (v := ?_) rfl (by kernel_rfl) (by kernel_rfl) (by kernel_rfl) (fun _ _ _ h => h) (Or.inl ⟨by rfl, ?_⟩) E0.out ?_
  rotate_left
  · (intro w1 hS; have hW := hS; have q := HCZ.out w1 hW; clear hW hS; go_simp; try with_reducible rfl)
  simp only [Act.put, List.setIfInBounds_toArray, List.set_cons_zero, List.set_cons_succ]
  refine wpAnyH_take (i := 24) (oi := { dst := some 98, op := Op.binOp BinOp.eql 9 (Operand.tmp 94) (Operand.tmp 97) 9, type := 4, pos := "law.go:56", after := #[{ on := 20, ground := Ground.data }, { on := 23, ground := Ground.data }, { on := 17, ground := Ground.guard }], guard := some (17, true) }) (v := ?_) rfl (by kernel_rfl) (by kernel_rfl) (by kernel_rfl) (fun _ _ _ h => h) (Or.inl ⟨by rfl, ?_⟩) E0.out ?_
  rotate_left
  · (intro w1 hS; go_simp; try with_reducible rfl)
  simp only [Act.put, List.setIfInBounds_toArray, List.set_cons_zero, List.set_cons_succ]
  refine wpAnyH_take (i := 25) (oi := { dst := some 99, op := Op.pick (Operand.tmp 91) (Operand.tmp 98) (Operand.const (Value.bool false)), type := 4, pos := "law.go:56", after := #[{ on := 17, ground := Ground.data }, { on := 24, ground := Ground.data }], guard := none }) (v := ?_) rfl (by kernel_rfl) (by kernel_rfl) (by kernel_rfl) (fun _ _ _ h => h) (Or.inl ⟨by rfl, ?_⟩) E0.out ?_
  rotate_left
  · (intro w1 hS; go_simp; try with_reducible rfl)
  simp only [Act.put, List.setIfInBounds_toArray, List.set_cons_zero, List.set_cons_succ]
  refine wpAnyH_take (i := 26) (oi := { dst := some 100, op := Op.move (Operand.tmp 99), type := 4, pos := "law.go:56", after := #[{ on := 25, ground := Ground.data }, { on := 17, ground := Ground.chain }], guard := none }) (v := ?_) rfl (by kernel_rfl) (by kernel_rfl) (by kernel_rfl) (fun _ _ _ h => h) (Or.inl ⟨by rfl, ?_⟩) E0.out ?_
  rotate_left
  · (intro w1 hS; go_simp; try with_reducible rfl)
  simp only [Act.put, List.setIfInBounds_toArray, List.set_cons_zero, List.set_cons_succ]
  refine wpAnyH_take (i := 27) (oi := { dst := some 101, op := Op.move (Operand.tmp 16), type := 22, pos := "law.go:56", after := #[{ on := 26, ground := Ground.guard }], guard := some (26, true) }) (v := ?_) rfl (by kernel_rfl) (by kernel_rfl) (by kernel_rfl) (fun _ _ _ h => h) (Or.inl ⟨by rfl, ?_⟩) E0.out ?_
  rotate_left
  · (intro w1 hS; go_simp; try with_reducible rfl)
  simp only [Act.put, List.setIfInBounds_toArray, List.set_cons_zero, List.set_cons_succ]
  refine wpAnyH_take (i := 28) (oi := { dst := some 102, op := Op.indexAddr 22 (Operand.tmp 101) (Operand.const (Value.int IntKind.i64 16)), type := 0, pos := "law.go:56", after := #[{ on := 27, ground := Ground.data }, { on := 26, ground := Ground.guard }], guard := some (26, true) }) (v := ?_) rfl (by kernel_rfl) (by kernel_rfl) (by kernel_rfl) (fun _ _ _ h => h) (Or.inl ⟨by rfl, ?_⟩) E0.out ?_
  rotate_left
  · (intro w1 hS; go_simp; try with_reducible rfl)
  simp only [Act.put, List.setIfInBounds_toArray, List.set_cons_zero, List.set_cons_succ]
  refine wpAnyH_take (i := 29) (oi := { dst := some 103, op := Op.load 5 (Operand.tmp 102), type := 5, pos := "law.go:56", after := #[{ on := 28, ground := Ground.data }, { on := 26, ground := Ground.guard }], guard := some (26, true) }) (v := ?_) rfl (by kernel_rfl) (by kernel_rfl) (by kernel_rfl) (fun _ _ _ h => h) (Or.inl ⟨by rfl, ?_⟩) E0.out ?_
  rotate_left
  · (intro w1 hS; have hW := hS; have q := HD1.out w1 hW; clear hW hS; go_simp; try with_reducible rfl)
  simp only [Act.put, List.setIfInBounds_toArray, List.set_cons_zero, List.set_cons_succ]
  refine wpAnyH_take (i := 30) (oi := { dst := some 104, op := Op.binOp BinOp.eql 5 (Operand.tmp 103) (Operand.const (Value.int IntKind.u8 8)) 5, type := 4, pos := "law.go:56", after := #[{ on := 29, ground := Ground.data }, { on := 26, ground := Ground.guard }], guard := some (26, true) }) (v := ?_) rfl (by kernel_rfl) (by kernel_rfl) (by kernel_rfl) (fun _ _ _ h => h) (Or.inl ⟨by rfl, ?_⟩) E0.out ?_
  rotate_left
  · (intro w1 hS; go_simp; try with_reducible rfl)
  simp only [Act.put, List.setIfInBounds_toArray, List.set_cons_zero, List.set_cons_succ]
  refine wpAnyH_take (i := 31) (oi := { dst := some 105, op := Op.pick (Operand.tmp 100) (Operand.tmp 104) (Operand.const (Value.bool false)), type := 4, pos := "law.go:56", after := #[{ on := 26, ground := Ground.data }, { on := 30, ground := Ground.data }], guard := none }) (v := ?_) rfl (by kernel_rfl) (by kernel_rfl) (by kernel_rfl) (fun _ _ _ h => h) (Or.inl ⟨by rfl, ?_⟩) E0.out ?_
  rotate_left
  · (intro w1 hS; go_simp; try with_reducible rfl)
  simp only [Act.put, List.setIfInBounds_toArray, List.set_cons_zero, List.set_cons_succ]
  refine wpAnyH_take (i := 32) (oi := { dst := some 106, op := Op.move (Operand.tmp 105), type := 4, pos := "law.go:56", after := #[{ on := 31, ground := Ground.data }, { on := 26, ground := Ground.chain }], guard := none }) (v := ?_) rfl (by kernel_rfl) (by kernel_rfl) (by kernel_rfl) (fun _ _ _ h => h) (Or.inl ⟨by rfl, ?_⟩) E0.out ?_
  rotate_left
  · (intro w1 hS; go_simp; try with_reducible rfl)
  simp only [Act.put, List.setIfInBounds_toArray, List.set_cons_zero, List.set_cons_succ]
  refine wpAnyH_take (i := 33) (oi := { dst := some 107, op := Op.move (Operand.tmp 16), type := 22, pos := "law.go:56", after := #[{ on := 32, ground := Ground.guard }], guard := some (32, true) }) (v := ?_) rfl (by kernel_rfl) (by kernel_rfl) (by kernel_rfl) (fun _ _ _ h => h) (Or.inl ⟨by rfl, ?_⟩) E0.out ?_
  rotate_left
  · (intro w1 hS; go_simp; try with_reducible rfl)
  simp only [Act.put, List.setIfInBounds_toArray, List.set_cons_zero, List.set_cons_succ]
  refine wpAnyH_take (i := 34) (oi := { dst := some 108, op := Op.indexAddr 22 (Operand.tmp 107) (Operand.const (Value.int IntKind.i64 17)), type := 0, pos := "law.go:56", after := #[{ on := 33, ground := Ground.data }, { on := 32, ground := Ground.guard }], guard := some (32, true) }) (v := ?_) rfl (by kernel_rfl) (by kernel_rfl) (by kernel_rfl) (fun _ _ _ h => h) (Or.inl ⟨by rfl, ?_⟩) E0.out ?_
  rotate_left
  · (intro w1 hS; go_simp; try with_reducible rfl)
  simp only [Act.put, List.setIfInBounds_toArray, List.set_cons_zero, List.set_cons_succ]
  refine wpAnyH_take (i := 35) (oi := { dst := some 109, op := Op.load 5 (Operand.tmp 108), type := 5, pos := "law.go:56", after := #[{ on := 34, ground := Ground.data }, { on := 32, ground := Ground.guard }], guard := some (32, true) }) (v := ?_) rfl (by kernel_rfl) (by kernel_rfl) (by kernel_rfl) (fun _ _ _ h => h) (Or.inl ⟨by rfl, ?_⟩) E0.out ?_
  rotate_left
  · (intro w1 hS; have hW := hS; have q := HD2.out w1 hW; clear hW hS; go_simp; try with_reducible rfl)
  simp only [Act.put, List.setIfInBounds_toArray, List.set_cons_zero, List.set_cons_succ]
  refine wpAnyH_take (i := 36) (oi := { dst := some 110, op := Op.binOp BinOp.eql 5 (Operand.tmp 109) (Operand.const (Value.int IntKind.u8 0)) 5, type := 4, pos := "law.go:56", after := #[{ on := 35, ground := Ground.data }, { on := 32, ground := Ground.guard }], guard := some (32, true) }) (v := ?_) rfl (by kernel_rfl) (by kernel_rfl) (by kernel_rfl) (fun _ _ _ h => h) (Or.inl ⟨by rfl, ?_⟩) E0.out ?_
  rotate_left
  · (intro w1 hS; go_simp; try with_reducible rfl)
  simp only [Act.put, List.setIfInBounds_toArray, List.set_cons_zero, List.set_cons_succ]
  refine wpAnyH_take (i := 37) (oi := { dst := some 111, op := Op.pick (Operand.tmp 106) (Operand.tmp 110) (Operand.const (Value.bool false)), type := 4, pos := "law.go:56", after := #[{ on := 32, ground := Ground.data }, { on := 36, ground := Ground.data }], guard := none }) (v := ?_) rfl (by kernel_rfl) (by kernel_rfl) (by kernel_rfl) (fun _ _ _ h => h) (Or.inl ⟨by rfl, ?_⟩) E0.out ?_
  rotate_left
  · (intro w1 hS; go_simp; try with_reducible rfl)
  simp only [Act.put, List.setIfInBounds_toArray, List.set_cons_zero, List.set_cons_succ]
  refine wpAnyH_take (i := 38) (oi := { dst := some 112, op := Op.move (Operand.tmp 111), type := 4, pos := "law.go:56", after := #[{ on := 37, ground := Ground.data }, { on := 32, ground := Ground.chain }], guard := none }) (v := ?_) rfl (by kernel_rfl) (by kernel_rfl) (by kernel_rfl) (fun _ _ _ h => h) (Or.inl ⟨by rfl, ?_⟩) E0.out ?_
  rotate_left
  · (intro w1 hS; go_simp; try with_reducible rfl)
  simp only [Act.put, List.setIfInBounds_toArray, List.set_cons_zero, List.set_cons_succ]
  refine wpAnyH_ready (rs := [39]) (by kernel_rfl) (by simp) ?_
  refine AllReadyH.cons (o := { dst := some 113, op := Op.call { callee := Callee.value (Operand.func 7), args := #[], argTypes := #[] }, type := 4, pos := "law.go:56", after := #[{ on := 38, ground := Ground.chain }, { on := 38, ground := Ground.guard }], guard := some (38, true) }) rfl (fun K hK => ?_) AllReadyH.nil
  go_simp
  refine (awake_any Y0).mono ?_
  rintro e Y1 ⟨rfl, hy⟩
  have E1 := Lib.hid (E0.out.trans (hy.mono E0.out.size))
  have C1 := Lib.hid E1.out
  clear hy E0
  refine hK.out _ _ C1.out (fun _ => ?_)
  clear hK K
  refine wpAnyH_mono (S' := (fun w' : World => Below Y1.heap.size Y1 w')) (fun w1 h => C1.out.trans (h.mono C1.out.size)) _ _ _ _ ?_
  clear C1
  try simp only [Act.put, List.setIfInBounds_toArray, List.set_cons_zero, List.set_cons_succ]
  refine wpAnyH_take (i := 40) (oi := { dst := some 114, op := Op.pick (Operand.tmp 112) (Operand.tmp 113) (Operand.const (Value.bool false)), type := 4, pos := "law.go:56", after := #[{ on := 38, ground := Ground.data }, { on := 39, ground := Ground.data }], guard := none }) (v := ?_) rfl (by kernel_rfl) (by kernel_rfl) (by kernel_rfl) (fun _ _ _ h => h) (Or.inl ⟨by rfl, ?_⟩) (Below.refl _ _) ?_
  rotate_left
  · (intro w1 hS; go_simp; try with_reducible rfl)
  simp only [Act.put, List.setIfInBounds_toArray, List.set_cons_zero, List.set_cons_succ]
  refine wpAnyH_take (i := 41) (oi := { dst := some 10, op := Op.assign (Operand.tmp 114), type := 4, pos := "law.go:56", after := #[{ on := 40, ground := Ground.data }, { on := 39, ground := Ground.chain }, { on := 0, ground := Ground.phase }, { on := 1, ground := Ground.phase }, { on := 2, ground := Ground.phase }, { on := 3, ground := Ground.phase }, { on := 4, ground := Ground.phase }, { on := 5, ground := Ground.phase }, { on := 6, ground := Ground.phase }, { on := 7, ground := Ground.phase }, { on := 8, ground := Ground.phase }, { on := 9, ground := Ground.phase }, { on := 10, ground := Ground.phase }, { on := 11, ground := Ground.phase }, { on := 12, ground := Ground.phase }, { on := 13, ground := Ground.phase }, { on := 14, ground := Ground.phase }, { on := 15, ground := Ground.phase }, { on := 16, ground := Ground.phase }, { on := 17, ground := Ground.phase }, { on := 18, ground := Ground.phase }, { on := 19, ground := Ground.phase }, { on := 20, ground := Ground.phase }, { on := 21, ground := Ground.phase }, { on := 22, ground := Ground.phase }, { on := 23, ground := Ground.phase }, { on := 24, ground := Ground.phase }, { on := 25, ground := Ground.phase }, { on := 26, ground := Ground.phase }, { on := 27, ground := Ground.phase }, { on := 28, ground := Ground.phase }, { on := 29, ground := Ground.phase }, { on := 30, ground := Ground.phase }, { on := 31, ground := Ground.phase }, { on := 32, ground := Ground.phase }, { on := 33, ground := Ground.phase }, { on := 34, ground := Ground.phase }, { on := 35, ground := Ground.phase }, { on := 36, ground := Ground.phase }, { on := 37, ground := Ground.phase }, { on := 38, ground := Ground.phase }, { on := 39, ground := Ground.phase }, { on := 40, ground := Ground.phase }], guard := none }) (v := ?_) rfl (by kernel_rfl) (by kernel_rfl) (by kernel_rfl) (fun _ _ _ h => h) (Or.inl ⟨by rfl, ?_⟩) (Below.refl _ _) ?_
  rotate_left
  · (intro w1 hS; go_simp; try with_reducible rfl)
  simp only [Act.put, List.setIfInBounds_toArray, List.set_cons_zero, List.set_cons_succ]
  refine wpAnyH_done (by kernel_rfl) ?_ _
  go_wp2
  go_ret
  exact ⟨rfl, B7.out.trans (E1.out.mono B7.out.size)⟩

set_option maxRecDepth 100000 in
set_option maxHeartbeats 4000000 in
theorem tags_six2 (a a4 : Option Addr) (cap l4 cap4 : Nat) (M L : List Nat) (tag : Nat) (w : World) (hr : Rd w (.slice a 12 cap) (nus .u8 M)) (hna : a = none → cap = 0) (hM : M.length = 12) (hb : ∀ c ∈ M, c < 256)
    (ht : tag < 65536) (hr4 : Rd w (.slice a4 l4 cap4) (nus .u8 L)) (hn4 : a4 = none → cap4 = 0) (hL : L.length = l4) (hl4 : l4 ≤ 500) (hb4 : ∀ c ∈ L, c < 256) :
    Calls Try.prog 4 #[.slice a 12 cap, .int .u16 (tag : Int), .bool true, .bool true, .slice a4 l4 cap4] w fun e w' => e = .returned (.bool true) ∧ Below w.heap.size w w' := by
  have HR := Lib.hid hr
  have HA := Lib.hid hna
  have HM := Lib.hid hM
  have HB := Lib.hid hb
  have HR4 := Lib.hid hr4
  have HA4 := Lib.hid hn4
  have HL := Lib.hid hL
  have HB4 := Lib.hid hb4
  have hi1 : IntKind.u8.wrap ((tag : Int) / 256) = ((tag / 256 : Nat) : Int) := by rw [IntKind.wrap_u8]; omega
  have lo1 := lo_i64 tag
  have hdm := Lib.hid (show tag / 256 < 256 by omega)
  clear hr hna hM hb hr4 hn4 hL hb4
  go_enter Try.func4, Try.ntmps4
  have b1 := (Below.refl w.heap.size w).alloc (Nat.le_refl _) (.cells #[] 5)
  have O1 := Lib.hid (own_none w 5)
  have R1 := Lib.hid (HR.out.below b1)
  have B1 := Lib.hid b1
  clear b1
  go_wp2_with (at_builtin; refine wpList_app rfl (.tmp 26) (.tmp 27) rfl w.heap.size _ 0 [] rfl O1.out a 12 cap M rfl R1.out HA.out ?c2 ?c3 ?c4)
  case c2 => omega
  case c3 => exact B1.out.size
  intro v2 w2 o2 g2
  have O2 := Lib.hid (show w2.ownsRow w.heap.size 5 1 v2 12 (nus .u8 M) from o2)
  have B2 := Lib.hid (B1.out.grown g2 B1.out.size (fun k e => (O1.out.lt k e).1))
  clear o2 g2 O1 B1 R1 HR HA
  have ec : (#[.int .u8 129, .int .u8 0, .int .u8 ((tag : Int) / 256), .int .u8 ((tag : Int) % 256)] : Array Value) = (nus .u8 [129, 0, tag / 256, tag % 256]).toArray := by simp [nus]
  have b3 := (Below.refl w2.heap.size w2).alloc (Nat.le_refl _) (.cells (nus .u8 [129, 0, tag / 256, tag % 256]).toArray 5)
  have r3 := rd_lit w2 .u8 5 [129, 0, tag / 256, tag % 256] 4 (0, 0) rfl (by simp [maxLen])
  have O3a := Lib.hid (row_under O2.out b3)
  have R3a := Lib.hid r3
  have B3a := Lib.hid (B2.out.trans (b3.mono B2.out.size))
  clear b3 r3 O2 B2
  go_wp2_with (at_builtin; refine wpList_app rfl (.tmp 29) (.tmp 35) rfl w.heap.size _ 12 (M) rfl O3a.out (some _) 4 4 [129, 0, tag / 256, tag % 256] rfl R3a.out ?c31 ?c32 ?c33 ?c34)
  case c31 => intro e; cases e
  case c32 => omega
  case c33 => exact B3a.out.size
  intro v3 w3 o3 g3
  have O3 := Lib.hid (show w3.ownsRow w.heap.size 5 1 v3 16 (nus .u8 (M ++ [129, 0, tag / 256, tag % 256])) from o3)
  have B3 := Lib.hid (B3a.out.grown g3 B3a.out.size (fun k e => (O3a.out.lt k e).1))
  clear o3 g3 O3a R3a B3a
  clear ec hi1 lo1
  have b4 := (Below.refl w3.heap.size w3).alloc (Nat.le_refl _) (.cells (nus .u8 [129, 0, 0, 1]).toArray 5)
  have r4 := rd_lit w3 .u8 5 [129, 0, 0, 1] 4 (0, 0) rfl (by simp [maxLen])
  have O4a := Lib.hid (row_under O3.out b4)
  have R4a := Lib.hid r4
  have B4a := Lib.hid (B3.out.trans (b4.mono B3.out.size))
  clear b4 r4 O3 B3
  go_wp2_with (at_builtin; refine wpList_app rfl (.tmp 39) (.tmp 40) rfl w.heap.size _ 16 (M ++ [129, 0, tag / 256, tag % 256]) rfl O4a.out (some _) 4 4 [129, 0, 0, 1] rfl R4a.out ?c41 ?c42 ?c43 ?c44)
  case c41 => intro e; cases e
  case c42 => omega
  case c43 => exact B4a.out.size
  intro v4 w4 o4 g4
  have O4 := Lib.hid (show w4.ownsRow w.heap.size 5 1 v4 20 (nus .u8 (M ++ [129, 0, tag / 256, tag % 256, 129, 0, 0, 1])) from o4)
  have B4 := Lib.hid (B4a.out.grown g4 B4a.out.size (fun k e => (O4a.out.lt k e).1))
  clear o4 g4 O4a R4a B4a
  have b5 := (Below.refl w4.heap.size w4).alloc (Nat.le_refl _) (.cells (nus .u8 [134, 221]).toArray 5)
  have r5 := rd_lit w4 .u8 5 [134, 221] 2 (0, 0) rfl (by simp [maxLen])
  have O5a := Lib.hid (row_under O4.out b5)
  have R5a := Lib.hid r5
  have B5a := Lib.hid (B4.out.trans (b5.mono B4.out.size))
  clear b5 r5 O4 B4
  go_wp2_with (at_builtin; refine wpList_app rfl (.tmp 42) (.tmp 48) rfl w.heap.size _ 20 (M ++ [129, 0, tag / 256, tag % 256, 129, 0, 0, 1]) rfl O5a.out (some _) 2 2 [134, 221] rfl R5a.out ?c51 ?c52 ?c53 ?c54)
  case c51 => intro e; cases e
  case c52 => omega
  case c53 => exact B5a.out.size
  intro v5 w5 o5 g5
  have O5 := Lib.hid (show w5.ownsRow w.heap.size 5 1 v5 22 (nus .u8 (M ++ [129, 0, tag / 256, tag % 256, 129, 0, 0, 1, 134, 221])) from o5)
  have B5 := Lib.hid (B5a.out.grown g5 B5a.out.size (fun k e => (O5a.out.lt k e).1))
  clear o5 g5 O5a R5a B5a
  have R5 := Lib.hid (HR4.out.below B5.out)
  go_wp2_with (at_builtin; refine wpList_app rfl (.tmp 49) (.tmp 50) rfl w.heap.size _ 22 (M ++ [129, 0, tag / 256, tag % 256, 129, 0, 0, 1, 134, 221]) rfl O5.out a4 l4 cap4 L rfl R5.out HA4.out ?d2 ?d3 ?d4)
  case d2 => omega
  case d3 => exact B5.out.size
  intro v6 w6 o6 g6
  have B6 := Lib.hid (B5.out.grown g6 B5.out.size (fun k e => (O5.out.lt k e).1))
  have h6 := o6
  obtain ⟨-, ⟨rfl, h0⟩ | ⟨g, c6, cur, rfl, -, -, hc6, hm6, -⟩⟩ := h6
  · omega
  have R6 := Lib.hid (show Rd w6 (.slice (some ⟨g, 0, none⟩) (22 + l4) c6) (nus .u8 (M ++ ([129, 0, tag / 256, tag % 256, 129, 0, 0, 1, 134, 221] ++ L))) from by simpa using Rd.own o6)
  clear o6 g6 O5 B5 R5 HR4 HA4
  unfold maxLen at hm6
  have HZ : Hid (∀ c ∈ M ++ ([129, 0, tag / 256, tag % 256, 129, 0, 0, 1, 134, 221] ++ L), c < 256) := by
    show ∀ c ∈ _, c < 256
    have := hdm.out
    intro c hc
    rcases List.mem_append.1 hc with hc | hc
    · exact HB.out c hc
    · rcases List.mem_append.1 hc with hc | hc
      · simp only [List.mem_cons, List.not_mem_nil, or_false] at hc
        omega
      · exact HB4.out c hc
  have HN := Lib.hid (tags_six2_net M L tag HM.out)
  have NN := Lib.hid (net_any _ _ _ R6.out HZ.out)
  rw [HN.out] at NN
  go_wp2_with fail
  refine NN.out.mono ?_; rintro e w' ⟨rfl, rfl⟩
  clear HZ HN NN R6 HB HB4 HM
  go_wp2_with fail
  refine (awake_any _).mono ?_
  rintro e w7 ⟨rfl, hb⟩
  go_wp2
  go_ret
  exact ⟨rfl, B6.out.trans (hb.mono B6.out.size)⟩


set_option maxHeartbeats 800000 in
theorem tags_walk (v v4 : Value) (M L : List Nat) (tag : Nat) (kind twice : Bool) (w : World) (hr : Rd w v (nus .u8 M)) (hna : ∀ a l c, v = .slice a l c → a = none → c = 0) (hb : ∀ c ∈ M, c < 256) (ht : tag < 65536)
    (hr4 : Rd w v4 (nus .u8 L)) (hn4 : ∀ a l c, v4 = .slice a l c → a = none → c = 0) (hb4 : ∀ c ∈ L, c < 256) :
    Calls Try.prog 4 #[v, .int .u16 (tag : Int), .bool kind, .bool twice, v4] w fun e w' => e = .returned (.bool true) ∧ Below w.heap.size w w' := by
  obtain ⟨a, cap, e, hlc, hl, -⟩ := id hr
  obtain ⟨a4, cap4, e4, hlc4, hl4, -⟩ := id hr4
  rw [nus_length] at e hlc e4 hlc4
  subst e e4
  by_cases h : M.length = 12 ∧ L.length ≤ 500
  · obtain ⟨h, h5⟩ := h
    rw [h] at hr ⊢
    cases kind <;> cases twice
    · exact tags_four1 a a4 cap _ cap4 M L tag w hr (hna _ _ _ rfl) h hb ht hr4 (hn4 _ _ _ rfl) rfl h5 hb4
    · exact tags_four2 a a4 cap _ cap4 M L tag w hr (hna _ _ _ rfl) h hb ht hr4 (hn4 _ _ _ rfl) rfl h5 hb4
    · exact tags_six1 a a4 cap _ cap4 M L tag w hr (hna _ _ _ rfl) h hb ht hr4 (hn4 _ _ _ rfl) rfl h5 hb4
    · exact tags_six2 a a4 cap _ cap4 M L tag w hr (hna _ _ _ rfl) h hb ht hr4 (hn4 _ _ _ rfl) rfl h5 hb4
  · obtain ⟨len, hlen⟩ : ∃ n, n = M.length := ⟨_, rfl⟩
    obtain ⟨len4, hlen4⟩ : ∃ n, n = L.length := ⟨_, rfl⟩
    rw [← hlen] at hlc h ⊢
    rw [← hlen4] at hlc4 h ⊢
    unfold maxLen at hl hl4
    clear hlen hr hna hb hlen4 hr4 hn4 hb4
    go_enter Try.func4, Try.ntmps4
    by_cases h1 : len = 12
    · subst h1
      have h2 : 500 < len4 := by omega
      clear h
      go_wp2_with fail
      refine (awake_any _).mono ?_
      rintro e w2 ⟨rfl, hb⟩
      go_wp2
      go_ret
      exact ⟨rfl, hb⟩
    · have g0 : ((len : Int) != 12) = true := by simp; omega
      clear h
      go_wp2_with fail
      refine (awake_any _).mono ?_
      rintro e w2 ⟨rfl, hb⟩
      go_wp2
      go_ret
      exact ⟨rfl, hb⟩
end Go.Proofs.Ythbkboheeelbiaa
