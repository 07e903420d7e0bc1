/- The walk of EtherKinds. -/
import Derived.Test.YthbkboheeelbiaaES
namespace Go.Proofs.Ythbkboheeelbiaa
open Go.RowKit

/-- The row so far; the whole of it. -/
def pref12 (j : Nat) : List Nat := (List.range j).map (fun i => 7 * i + 3) ++ List.replicate (12 - j) 0
def P12 : List Nat := [3, 10, 17, 24, 31, 38, 45, 52, 59, 66, 73, 80]
theorem pref12_length : ∀ j, j ≤ 12 → (pref12 j).length = 12 := by intro j hj; simp [pref12]; omega
theorem pref12_step (j : Nat) (h : j < 12) : (pref12 j).set j (7 * j + 3) = pref12 (j + 1) := by
  have : ∀ j, j < 12 → (pref12 j).set j (7 * j + 3) = pref12 (j + 1) := by decide
  exact this j h
theorem pref12_all : pref12 12 = P12 := by decide
theorem p12_lt : ∀ c ∈ P12, c < 256 := by decide
theorem netK_yes (n k : Nat) (h : k = 2048 ∨ k = 34525) : netK n k = (n, k, 0) := if_pos h
theorem netK_not (n k : Nat) (h : ¬ (k = 2048 ∨ k = 34525)) : netK n k = (0, 0, 2) := if_neg h
theorem kinds_bare_net (k : Nat) : ((k = 2048 ∨ k = 34525) → net (P12 ++ [k / 256, k % 256, 9, 9, 9, 9, 9]) = (14, k, 0)) ∧ (¬ (k = 2048 ∨ k = 34525) → net (P12 ++ [k / 256, k % 256, 9, 9, 9, 9, 9]) = (0, 0, 2)) := by
  have hu : u2 (P12 ++ [k / 256, k % 256, 9, 9, 9, 9, 9]) 12 = k := (u2_app P12 _ 12 0 rfl).trans (by simp [u2]; omega)
  have hv : u2 (P12 ++ [k / 256, k % 256, 9, 9, 9, 9, 9]) 16 = 2313 := (u2_app P12 _ 12 4 rfl).trans (by simp [u2])
  have hl : (P12 ++ [k / 256, k % 256, 9, 9, 9, 9, 9]).length = 19 := rfl
  refine ⟨fun h => ?_, fun h => ?_⟩
  · rw [net_bare _ (by omega) (by omega), hu, netK_yes _ _ h]
  · by_cases e : k = 33024
    · rw [net_tag _ (by omega) (by omega) (by omega), hv]; decide
    · rw [net_bare _ (by omega) (by omega), hu, netK_not _ _ h]
theorem kinds_tag_net (k : Nat) : ((k = 2048 ∨ k = 34525) → net (P12 ++ [129, 0, 1, 2, k / 256, k % 256, 9, 9, 9, 9, 9]) = (18, k, 0)) ∧ (¬ (k = 2048 ∨ k = 34525) → net (P12 ++ [129, 0, 1, 2, k / 256, k % 256, 9, 9, 9, 9, 9]) = (0, 0, 2)) := by
  have hu : u2 (P12 ++ [129, 0, 1, 2, k / 256, k % 256, 9, 9, 9, 9, 9]) 12 = 33024 := (u2_app P12 _ 12 0 rfl).trans (by simp [u2])
  have hv : u2 (P12 ++ [129, 0, 1, 2, k / 256, k % 256, 9, 9, 9, 9, 9]) 16 = k := (u2_app P12 _ 12 4 rfl).trans (by simp [u2]; omega)
  have hl : (P12 ++ [129, 0, 1, 2, k / 256, k % 256, 9, 9, 9, 9, 9]).length = 23 := rfl
  refine ⟨fun h => ?_, fun h => ?_⟩
  · rw [net_tag _ (by omega) hu (by omega), hv, netK_yes _ _ h]
  · rw [net_tag _ (by omega) hu (by omega), hv, netK_not _ _ h]

set_option maxRecDepth 100000 in
set_option maxHeartbeats 4000000 in
theorem kinds_bare4 (k : Nat) (w : World) (hk : k < 65536) :
    Calls Try.prog 6 #[.int .u16 (k : Int), .bool false, .bool false] w fun e w' => e = .returned (.bool true) ∧ Below w.heap.size w w' := by
  have hi1 : IntKind.u8.wrap ((k : Int) / 256) = ((k / 256 : Nat) : Int) := by rw [IntKind.wrap_u8]; omega
  have lo1 := lo_i64 k
  have HK := Lib.hid hk
  obtain ⟨i0, hi, hz0, hz1, hz2⟩ := info_parts Try.info5
  have hbase : w.heap.size ≤ w.heap.size := Nat.le_refl _
  go_enter Try.func6, Try.ntmps6
  go_wp2_with (at_make; refine wpList_make_full _ rfl _ _ 22 rfl w.heap.size 5 i0 (.int .u8 0) 1 Try.underlying22 hi hz0 hz1 .i64 .i64 _ _ 12 rfl rfl ?c1 ?c2 ?c3 ?c4 hbase ?_)
  case c1 => omega
  case c2 => omega
  case c3 => rw [hz2]; omega
  case c4 => unfold maxLen; omega
  intro w1 o1 g1
  have B1 := Lib.hid ((Below.refl w.heap.size w).grown g1 (Nat.le_refl _) (fun k hk => by cases hk))
  rw [toList_madeCells_one] at o1
  have O1 := Lib.hid (show w1.ownsRow w.heap.size 5 1 (.slice (some ⟨w.heap.size, 0, none⟩) 12 12) 12 (nus .u8 (pref12 0)) from o1)
  clear o1 g1 hi hz0 hz1 hz2 hbase
  go_wp2
  go_loopw [8] (fun i wr => ∃ j : Nat, j ≤ 12 ∧ i = .int .i64 j ∧ wr.ownsRow w.heap.size 5 1 (.slice (some ⟨w.heap.size, 0, none⟩) 12 12) 12 (nus .u8 (pref12 j)) ∧ Below w.heap.size w wr) (fun i _ => 12 - (intOf i).toNat)
  case atStart => exact ⟨0, by omega, rfl, O1.out, B1.out⟩
  case round =>
    obtain ⟨j, hj, rfl, hown, hbl⟩ := hrel
    clear O1 B1
    by_cases h1 : j < 12
    · have hcell := hown.cellAt j (by omega)
      rw [nus_get _ _ _ (by rw [pref12_length j hj]; omega)] at hcell
      have hfz := hown.frozenAt j
      have hst := hown.stored j (.int .u8 ((7 * j + 3 : Nat) : Int))
      rw [nus_set, pref12_step j h1] at hst
      have hw := Lib.hid (hbl.grown hst.2 hbl.size (fun k e => by cases e; exact Nat.le_refl _))
      have HS := Lib.hid hst.1
      have he : IntKind.u8.wrap (7 * (j : Int) + 3) = ((7 * j + 3 : Nat) : Int) := by rw [IntKind.wrap_u8]; omega
      obtain ⟨x, hx⟩ : ∃ x, x = (pref12 j).getD j 0 := ⟨_, rfl⟩
      rw [← hx] at hcell
      clear hown hbl hst hx hi1 lo1
      go_wp2
      go_roundw
      case rel => exact ⟨j + 1, by omega, by go_num, HS.out, hw.out⟩
      case measure => simp [intOf]; omega
    · obtain rfl : j = 12 := by omega
      rw [pref12_all] at hown
      have O2 := Lib.hid hown
      have B2 := Lib.hid hbl
      clear hown hbl h1
      have ec : (#[.int .u8 ((k : Int) / 256), .int .u8 ((k : Int) % 256), .int .u8 9, .int .u8 9, .int .u8 9, .int .u8 9, .int .u8 9] : Array Value) = (nus .u8 [k / 256, k % 256, 9, 9, 9, 9, 9]).toArray := by simp [nus]
      have b5 := (Below.refl wr.heap.size wr).alloc (Nat.le_refl _) (.cells (nus .u8 [k / 256, k % 256, 9, 9, 9, 9, 9]).toArray 5)
      have r5 := rd_lit wr .u8 5 [k / 256, k % 256, 9, 9, 9, 9, 9] 7 (0, 0) rfl (by simp [maxLen])
      have O5a := Lib.hid (row_under O2.out b5)
      have R5a := Lib.hid r5
      have B5a := Lib.hid (B2.out.trans (b5.mono B2.out.size))
      clear b5 r5 O2 B2
      go_wp2_with (at_builtin; refine wpList_app rfl (.tmp 34) (.tmp 40) rfl w.heap.size _ 12 (P12) rfl O5a.out (some _) 7 7 [k / 256, k % 256, 9, 9, 9, 9, 9] rfl R5a.out ?c51 ?c52 ?c53 ?c54)
      case c51 => intro e; cases e
      case c52 => omega
      case c53 => exact B5a.out.size
      intro v5 w5 o5 g5
      have O5 := Lib.hid (show w5.ownsRow w.heap.size 5 1 v5 19 (nus .u8 (P12 ++ [k / 256, k % 256, 9, 9, 9, 9, 9])) from o5)
      have B5 := Lib.hid (B5a.out.grown g5 B5a.out.size (fun k e => (O5a.out.lt k e).1))
      clear o5 g5 O5a R5a B5a
      clear ec hi1 lo1
      have h5 := O5.out
      obtain ⟨-, ⟨rfl, h0⟩ | ⟨g, c5, cur, rfl, -, -, hc5, hm5, -⟩⟩ := h5
      · cases h0
      unfold maxLen at hm5
      have R5 := Lib.hid (Rd.own O5.out)
      have HL := Lib.hid (show (P12 ++ [k / 256, k % 256, 9, 9, 9, 9, 9]).length = 19 from rfl)
      have HZ : Hid (∀ c ∈ P12 ++ [k / 256, k % 256, 9, 9, 9, 9, 9], c < 256) := by
        show ∀ c ∈ _, c < 256
        have := HK.out
        intro c hc
        rcases List.mem_append.1 hc with hc | hc
        · exact p12_lt c hc
        · simp only [List.mem_cons, List.not_mem_nil, or_false] at hc
          omega
      have HN := Lib.hid (kinds_bare_net k)
      have NN := Lib.hid (net_any _ _ _ R5.out HZ.out)
      clear O5
      by_cases hip : k = 2048 ∨ k = 34525
      · have hne := Lib.hid (HN.out.1 hip)
        rw [hne.out] at NN
        go_wp2_with fail
        refine NN.out.mono ?_; rintro e w' ⟨rfl, rfl⟩
        clear NN HN
        go_wp2_with fail
        refine (with_yes _ _ 2048 12 _ R5.out HZ.out (by decide) (by rw [hne.out]) (by rw [hne.out]) (by rw [HL.out]; decide) (by decide)).mono ?_
        rintro e W ⟨x, rfl, ho, hb⟩
        have B6 := Lib.hid (B5.out.trans (hb.mono B5.out.size))
        have RZ := Lib.hid (R5.out.below hb)
        have RX0 := Rd.own ho
        obtain ⟨-, ⟨rfl, h0⟩ | ⟨g7, c7, cur7, rfl, -, -, hc7, hm7, -⟩⟩ := ho
        · cases h0
        unfold maxLen at hm7
        have htk : (P12 ++ [k / 256, k % 256, 9, 9, 9, 9, 9]).take 12 ++ bg 2 2048 = P12 ++ [8, 0] := by simp [P12, bg]
        rw [htk] at RX0
        have RX := Lib.hid RX0
        clear hb RX0 htk R5 B5 HZ hne
        have hcx : ∀ W', Below W.heap.size W W' → (convert 22 9 (.slice (some ⟨g7, 0, none⟩) 12 c7)).run Try.prog W' = .ok (.string (str (P12))) W' := fun W' hW' =>
          conv_rd W' 22 9 5 Try.underlying22 Try.underlying5 Try.underlying9 _ _ ((RX.out.front 12 (by decide)).below hW')
        have hcz : ∀ W', Below W.heap.size W W' → (convert 22 9 (.slice (some ⟨g, 0, none⟩) 12 c5)).run Try.prog W' = .ok (.string (str (P12))) W' := fun W' hW' =>
          conv_rd W' 22 9 5 Try.underlying22 Try.underlying5 Try.underlying9 _ _ ((RZ.out.front 12 (by rw [HL.out]; decide)).below hW')
        obtain ⟨T, hT⟩ : ∃ T, T = str (P12) := ⟨_, rfl⟩
        rw [← hT] at hcx hcz
        have HCX := Lib.hid hcx
        have HCZ := Lib.hid hcz
        have NX := Lib.hid (fun W' (h : Below W.heap.size W W') => net_any _ _ W' (RX.out.below h) (by decide))
        rw [show net (P12 ++ [8, 0]) = (14, 2048, 0) from by decide] at NX
        clear hT hcx hcz RX RZ HL
        have hws : IntKind.i64.wrap (12 : Int) = 12 := by decide
        rcases hip with rfl | rfl
        · go_wp2_with fail
          refine wp_region_held (S := (fun w' : World => Below W.heap.size W w')) (by kernel_rfl) ?_
          change wpAnyH _ _ _ _ _ _ _ _ W.drew
          have hE0 : Below W.heap.size W W.drew := (Below.refl _ _).drew
          generalize W.drew = Y0 at hE0 ⊢
          have E0 := Lib.hid hE0
          clear hE0
          refine wpAnyH_take (i := 0) (oi := { dst := some 85, op := Op.move (Operand.tmp 11), type := 3, pos := "law.go:101", after := #[], guard := none }) (v := ?_) rfl (by kernel_rfl) (by kernel_rfl) (by kernel_rfl) (fun _ _ _ h => h) (Or.inl ⟨by rfl, ?_⟩) E0.out ?_
          rotate_left
          · (intro w1 hS; go_simp; try with_reducible rfl)
          simp only [Act.put, List.setIfInBounds_toArray, List.set_cons_zero, List.set_cons_succ]
          refine wpAnyH_take (i := 1) (oi := { dst := some 86, op := Op.binOp BinOp.neq 3 (Operand.tmp 85) (Operand.const (Value.int IntKind.i64 0)) 3, type := 4, pos := "law.go:101", after := #[{ on := 0, ground := Ground.data }], guard := none }) (v := ?_) rfl (by kernel_rfl) (by kernel_rfl) (by kernel_rfl) (fun _ _ _ h => h) (Or.inl ⟨by rfl, ?_⟩) E0.out ?_
          rotate_left
          · (intro w1 hS; go_simp; try with_reducible rfl)
          simp only [Act.put, List.setIfInBounds_toArray, List.set_cons_zero, List.set_cons_succ]
          refine wpAnyH_take (i := 2) (oi := { dst := some 87, op := Op.move (Operand.tmp 86), type := 4, pos := "law.go:101", after := #[{ on := 1, ground := Ground.data }], guard := none }) (v := ?_) rfl (by kernel_rfl) (by kernel_rfl) (by kernel_rfl) (fun _ _ _ h => h) (Or.inl ⟨by rfl, ?_⟩) E0.out ?_
          rotate_left
          · (intro w1 hS; go_simp; try with_reducible rfl)
          simp only [Act.put, List.setIfInBounds_toArray, List.set_cons_zero, List.set_cons_succ]
          refine wpAnyH_take (i := 3) (oi := { dst := some 88, op := Op.move (Operand.tmp 9), type := 3, pos := "law.go:101", after := #[{ on := 2, ground := Ground.guard }], guard := some (2, false) }) (v := ?_) rfl (by kernel_rfl) (by kernel_rfl) (by kernel_rfl) (fun _ _ _ h => h) (Or.inl ⟨by rfl, ?_⟩) E0.out ?_
          rotate_left
          · (intro w1 hS; go_simp; try with_reducible rfl)
          simp only [Act.put, List.setIfInBounds_toArray, List.set_cons_zero, List.set_cons_succ]
          refine wpAnyH_take (i := 4) (oi := { dst := some 89, op := Op.move (Operand.tmp 14), type := 3, pos := "law.go:101", after := #[{ on := 2, ground := Ground.guard }], guard := some (2, false) }) (v := ?_) rfl (by kernel_rfl) (by kernel_rfl) (by kernel_rfl) (fun _ _ _ h => h) (Or.inl ⟨by rfl, ?_⟩) E0.out ?_
          rotate_left
          · (intro w1 hS; go_simp; try with_reducible rfl)
          simp only [Act.put, List.setIfInBounds_toArray, List.set_cons_zero, List.set_cons_succ]
          refine wpAnyH_take (i := 5) (oi := { dst := some 90, op := Op.binOp BinOp.neq 3 (Operand.tmp 88) (Operand.tmp 89) 3, type := 4, pos := "law.go:101", after := #[{ on := 3, ground := Ground.data }, { on := 4, ground := Ground.data }, { on := 2, ground := Ground.guard }], guard := some (2, false) }) (v := ?_) rfl (by kernel_rfl) (by kernel_rfl) (by kernel_rfl) (fun _ _ _ h => h) (Or.inl ⟨by rfl, ?_⟩) E0.out ?_
          rotate_left
          · (intro w1 hS; go_simp; try with_reducible rfl)
          simp only [Act.put, List.setIfInBounds_toArray, List.set_cons_zero, List.set_cons_succ]
          refine wpAnyH_take (i := 6) (oi := { dst := some 91, op := Op.pick (Operand.tmp 87) (Operand.const (Value.bool true)) (Operand.tmp 90), type := 4, pos := "law.go:101", after := #[{ on := 2, ground := Ground.data }, { on := 5, ground := Ground.data }], guard := none }) (v := ?_) rfl (by kernel_rfl) (by kernel_rfl) (by kernel_rfl) (fun _ _ _ h => h) (Or.inl ⟨by rfl, ?_⟩) E0.out ?_
          rotate_left
          · (intro w1 hS; go_simp; try with_reducible rfl)
          simp only [Act.put, List.setIfInBounds_toArray, List.set_cons_zero, List.set_cons_succ]
          refine wpAnyH_take (i := 7) (oi := { dst := some 92, op := Op.move (Operand.tmp 91), type := 4, pos := "law.go:101", after := #[{ on := 6, ground := Ground.data }, { on := 2, ground := Ground.chain }], guard := none }) (v := ?_) rfl (by kernel_rfl) (by kernel_rfl) (by kernel_rfl) (fun _ _ _ h => h) (Or.inl ⟨by rfl, ?_⟩) E0.out ?_
          rotate_left
          · (intro w1 hS; go_simp; try with_reducible rfl)
          simp only [Act.put, List.setIfInBounds_toArray, List.set_cons_zero, List.set_cons_succ]
          refine wpAnyH_take (i := 8) (oi := { dst := some 93, op := Op.move (Operand.tmp 10), type := 23, pos := "law.go:101", after := #[{ on := 7, ground := Ground.guard }], guard := some (7, false) }) (v := ?_) rfl (by kernel_rfl) (by kernel_rfl) (by kernel_rfl) (fun _ _ _ h => h) (Or.inl ⟨by rfl, ?_⟩) E0.out ?_
          rotate_left
          · (intro w1 hS; go_simp; try with_reducible rfl)
          simp only [Act.put, List.setIfInBounds_toArray, List.set_cons_zero, List.set_cons_succ]
          refine wpAnyH_take (i := 9) (oi := { dst := some 94, op := Op.move (Operand.tmp 0), type := 23, pos := "law.go:101", after := #[{ on := 7, ground := Ground.guard }], guard := some (7, false) }) (v := ?_) rfl (by kernel_rfl) (by kernel_rfl) (by kernel_rfl) (fun _ _ _ h => h) (Or.inl ⟨by rfl, ?_⟩) E0.out ?_
          rotate_left
          · (intro w1 hS; go_simp; try with_reducible rfl)
          simp only [Act.put, List.setIfInBounds_toArray, List.set_cons_zero, List.set_cons_succ]
          refine wpAnyH_take (i := 10) (oi := { dst := some 95, op := Op.binOp BinOp.neq 23 (Operand.tmp 93) (Operand.tmp 94) 23, type := 4, pos := "law.go:101", after := #[{ on := 8, ground := Ground.data }, { on := 9, ground := Ground.data }, { on := 7, ground := Ground.guard }], guard := some (7, false) }) (v := ?_) rfl (by kernel_rfl) (by kernel_rfl) (by kernel_rfl) (fun _ _ _ h => h) (Or.inl ⟨by rfl, ?_⟩) E0.out ?_
          rotate_left
          · (intro w1 hS; go_simp; try with_reducible rfl)
          simp only [Act.put, List.setIfInBounds_toArray, List.set_cons_zero, List.set_cons_succ]
          refine wpAnyH_take (i := 11) (oi := { dst := some 96, op := Op.pick (Operand.tmp 92) (Operand.const (Value.bool true)) (Operand.tmp 95), type := 4, pos := "law.go:101", after := #[{ on := 7, ground := Ground.data }, { on := 10, ground := Ground.data }], guard := none }) (v := ?_) rfl (by kernel_rfl) (by kernel_rfl) (by kernel_rfl) (fun _ _ _ h => h) (Or.inl ⟨by rfl, ?_⟩) E0.out ?_
          rotate_left
          · (intro w1 hS; go_simp; try with_reducible rfl)
          simp only [Act.put, List.setIfInBounds_toArray, List.set_cons_zero, List.set_cons_succ]
          refine wpAnyH_take (i := 12) (oi := { dst := some 97, op := Op.move (Operand.tmp 96), type := 4, pos := "law.go:101", after := #[{ on := 11, ground := Ground.data }, { on := 7, ground := Ground.chain }], guard := none }) (v := ?_) rfl (by kernel_rfl) (by kernel_rfl) (by kernel_rfl) (fun _ _ _ h => h) (Or.inl ⟨by rfl, ?_⟩) E0.out ?_
          rotate_left
          · (intro w1 hS; go_simp; try with_reducible rfl)
          simp only [Act.put, List.setIfInBounds_toArray, List.set_cons_zero, List.set_cons_succ]
          refine wpAnyH_take (i := 13) (oi := { dst := some 98, op := Op.move (Operand.tmp 13), type := 22, pos := "law.go:101", after := #[{ on := 12, ground := Ground.guard }], guard := some (12, false) }) (v := ?_) rfl (by kernel_rfl) (by kernel_rfl) (by kernel_rfl) (fun _ _ _ h => h) (Or.inl ⟨by rfl, ?_⟩) E0.out ?_
          rotate_left
          · (intro w1 hS; go_simp; try with_reducible rfl)
          simp only [Act.put, List.setIfInBounds_toArray, List.set_cons_zero, List.set_cons_succ]
          refine wpAnyH_take (i := 14) (oi := { dst := some 99, op := Op.call { callee := Callee.builtin Builtin.len, args := #[Operand.tmp 98], argTypes := #[22] }, type := 3, pos := "law.go:101", after := #[{ on := 13, ground := Ground.data }, { on := 12, ground := Ground.guard }], guard := some (12, false) }) (v := ?_) rfl (by kernel_rfl) (by kernel_rfl) (by kernel_rfl) (fun _ _ _ h => h) (Or.inl ⟨by rfl, ?_⟩) E0.out ?_
          rotate_left
          · (intro w1 hS; go_simp; try with_reducible rfl)
          simp only [Act.put, List.setIfInBounds_toArray, List.set_cons_zero, List.set_cons_succ]
          refine wpAnyH_take (i := 15) (oi := { dst := some 100, op := Op.move (Operand.tmp 14), type := 3, pos := "law.go:101", after := #[{ on := 12, ground := Ground.guard }], guard := some (12, false) }) (v := ?_) rfl (by kernel_rfl) (by kernel_rfl) (by kernel_rfl) (fun _ _ _ h => h) (Or.inl ⟨by rfl, ?_⟩) E0.out ?_
          rotate_left
          · (intro w1 hS; go_simp; try with_reducible rfl)
          simp only [Act.put, List.setIfInBounds_toArray, List.set_cons_zero, List.set_cons_succ]
          refine wpAnyH_take (i := 16) (oi := { dst := some 101, op := Op.binOp BinOp.neq 3 (Operand.tmp 99) (Operand.tmp 100) 3, type := 4, pos := "law.go:101", after := #[{ on := 14, ground := Ground.data }, { on := 15, ground := Ground.data }, { on := 12, ground := Ground.guard }], guard := some (12, false) }) (v := ?_) rfl (by kernel_rfl) (by kernel_rfl) (by kernel_rfl) (fun _ _ _ h => h) (Or.inl ⟨by rfl, ?_⟩) E0.out ?_
          rotate_left
          · (intro w1 hS; go_simp; try with_reducible rfl)
          simp only [Act.put, List.setIfInBounds_toArray, List.set_cons_zero, List.set_cons_succ]
          refine wpAnyH_take (i := 17) (oi := { dst := some 102, op := Op.pick (Operand.tmp 97) (Operand.const (Value.bool true)) (Operand.tmp 101), type := 4, pos := "law.go:101", after := #[{ on := 12, ground := Ground.data }, { on := 16, ground := Ground.data }], guard := none }) (v := ?_) rfl (by kernel_rfl) (by kernel_rfl) (by kernel_rfl) (fun _ _ _ h => h) (Or.inl ⟨by rfl, ?_⟩) E0.out ?_
          rotate_left
          · (intro w1 hS; go_simp; try with_reducible rfl)
          simp only [Act.put, List.setIfInBounds_toArray, List.set_cons_zero, List.set_cons_succ]
          refine wpAnyH_take (i := 18) (oi := { dst := some 103, op := Op.move (Operand.tmp 102), type := 4, pos := "law.go:101", after := #[{ on := 17, ground := Ground.data }, { on := 12, ground := Ground.chain }], guard := none }) (v := ?_) rfl (by kernel_rfl) (by kernel_rfl) (by kernel_rfl) (fun _ _ _ h => h) (Or.inl ⟨by rfl, ?_⟩) E0.out ?_
          rotate_left
          · (intro w1 hS; go_simp; try with_reducible rfl)
          simp only [Act.put, List.setIfInBounds_toArray, List.set_cons_zero, List.set_cons_succ]
          refine wpAnyH_take (i := 19) (oi := { dst := some 104, op := Op.move (Operand.tmp 13), type := 22, pos := "law.go:101", after := #[{ on := 18, ground := Ground.guard }], guard := some (18, false) }) (v := ?_) rfl (by kernel_rfl) (by kernel_rfl) (by kernel_rfl) (fun _ _ _ h => h) (Or.inl ⟨by rfl, ?_⟩) E0.out ?_
          rotate_left
          · (intro w1 hS; go_simp; try with_reducible rfl)
          simp only [Act.put, List.setIfInBounds_toArray, List.set_cons_zero, List.set_cons_succ]
          refine wpAnyH_take (i := 20) (oi := { dst := some 105, op := Op.move (Operand.tmp 14), type := 3, pos := "law.go:101", after := #[{ on := 18, ground := Ground.guard }], guard := some (18, false) }) (v := ?_) rfl (by kernel_rfl) (by kernel_rfl) (by kernel_rfl) (fun _ _ _ h => h) (Or.inl ⟨by rfl, ?_⟩) E0.out ?_
          rotate_left
          · (intro w1 hS; go_simp; try with_reducible rfl)
          simp only [Act.put, List.setIfInBounds_toArray, List.set_cons_zero, List.set_cons_succ]
          refine wpAnyH_take (i := 21) (oi := { dst := some 106, op := Op.binOp BinOp.sub 3 (Operand.tmp 105) (Operand.const (Value.int IntKind.i64 2)) 3, type := 3, pos := "law.go:101", after := #[{ on := 20, ground := Ground.data }, { on := 18, ground := Ground.guard }], guard := some (18, false) }) (v := ?_) rfl (by kernel_rfl) (by kernel_rfl) (by kernel_rfl) (fun _ _ _ h => h) (Or.inl ⟨by rfl, ?_⟩) E0.out ?_
          rotate_left
          · (intro w1 hS; go_simp; try with_reducible rfl)
          simp only [Act.put, List.setIfInBounds_toArray, List.set_cons_zero, List.set_cons_succ]
          refine wpAnyH_take (i := 22) (oi := { dst := some 107, op := Op.slice 22 (Operand.tmp 104) none (some (Operand.tmp 106)) none, type := 22, pos := "law.go:101", after := #[{ on := 19, ground := Ground.data }, { on := 21, ground := Ground.data }, { on := 18, ground := Ground.guard }], guard := some (18, false) }) (v := ?_) rfl (by kernel_rfl) (by kernel_rfl) (by kernel_rfl) (fun _ _ _ h => h) (Or.inl ⟨by rfl, ?_⟩) E0.out ?_
          rotate_left
          · (intro w1 hS; have hW := hS; have q : (12 : Int) ≤ (c7 : Int) := (by omega); clear hW hS; go_simp; try with_reducible rfl)
          simp only [Act.put, List.setIfInBounds_toArray, List.set_cons_zero, List.set_cons_succ]
          refine wpAnyH_take (i := 23) (oi := { dst := some 108, op := Op.convert 22 9 (Operand.tmp 107), type := 9, pos := "law.go:101", after := #[{ on := 22, ground := Ground.data }, { on := 18, ground := Ground.guard }], guard := some (18, false) }) (v := ?_) rfl (by kernel_rfl) (by kernel_rfl) (by kernel_rfl) (fun _ _ _ h => h) (Or.inl ⟨by rfl, ?_⟩) E0.out ?_
          rotate_left
          · (intro w1 hS; have hW := hS; have q := HCX.out w1 hW; clear hW hS; go_simp; try with_reducible rfl)
          simp only [Act.put, List.setIfInBounds_toArray, List.set_cons_zero, List.set_cons_succ]
          refine wpAnyH_take (i := 24) (oi := { dst := some 109, op := Op.move (Operand.tmp 7), type := 22, pos := "law.go:101", after := #[{ on := 18, ground := Ground.guard }], guard := some (18, false) }) (v := ?_) rfl (by kernel_rfl) (by kernel_rfl) (by kernel_rfl) (fun _ _ _ h => h) (Or.inl ⟨by rfl, ?_⟩) E0.out ?_
          rotate_left
          · (intro w1 hS; go_simp; try with_reducible rfl)
          simp only [Act.put, List.setIfInBounds_toArray, List.set_cons_zero, List.set_cons_succ]
          refine wpAnyH_take (i := 25) (oi := { dst := some 110, op := Op.move (Operand.tmp 14), type := 3, pos := "law.go:101", after := #[{ on := 18, ground := Ground.guard }], guard := some (18, false) }) (v := ?_) rfl (by kernel_rfl) (by kernel_rfl) (by kernel_rfl) (fun _ _ _ h => h) (Or.inl ⟨by rfl, ?_⟩) E0.out ?_
          rotate_left
          · (intro w1 hS; go_simp; try with_reducible rfl)
          simp only [Act.put, List.setIfInBounds_toArray, List.set_cons_zero, List.set_cons_succ]
          refine wpAnyH_take (i := 26) (oi := { dst := some 111, op := Op.binOp BinOp.sub 3 (Operand.tmp 110) (Operand.const (Value.int IntKind.i64 2)) 3, type := 3, pos := "law.go:101", after := #[{ on := 25, ground := Ground.data }, { on := 18, ground := Ground.guard }], guard := some (18, false) }) (v := ?_) rfl (by kernel_rfl) (by kernel_rfl) (by kernel_rfl) (fun _ _ _ h => h) (Or.inl ⟨by rfl, ?_⟩) E0.out ?_
          rotate_left
          · (intro w1 hS; go_simp; try with_reducible rfl)
          simp only [Act.put, List.setIfInBounds_toArray, List.set_cons_zero, List.set_cons_succ]
          refine wpAnyH_take (i := 27) (oi := { dst := some 112, op := Op.slice 22 (Operand.tmp 109) none (some (Operand.tmp 111)) none, type := 22, pos := "law.go:101", after := #[{ on := 24, ground := Ground.data }, { on := 26, ground := Ground.data }, { on := 18, ground := Ground.guard }], guard := some (18, false) }) (v := ?_) rfl (by kernel_rfl) (by kernel_rfl) (by kernel_rfl) (fun _ _ _ h => h) (Or.inl ⟨by rfl, ?_⟩) E0.out ?_
          rotate_left
          · (intro w1 hS; have hW := hS; have q : (12 : Int) ≤ (c5 : Int) := (by omega); clear hW hS; go_simp; try with_reducible rfl)
          simp only [Act.put, List.setIfInBounds_toArray, List.set_cons_zero, List.set_cons_succ]
          refine wpAnyH_take (i := 28) (oi := { dst := some 113, op := Op.convert 22 9 (Operand.tmp 112), type := 9, pos := "law.go:101", after := #[{ on := 27, ground := Ground.data }, { on := 18, ground := Ground.guard }], guard := some (18, false) }) (v := ?_) rfl (by kernel_rfl) (by kernel_rfl) (by kernel_rfl) (fun _ _ _ h => h) (Or.inl ⟨by rfl, ?_⟩) E0.out ?_
          rotate_left
          · (intro w1 hS; have hW := hS; have q := HCZ.out w1 hW; clear hW hS; go_simp; try with_reducible rfl)
          simp only [Act.put, List.setIfInBounds_toArray, List.set_cons_zero, List.set_cons_succ]
          refine wpAnyH_take (i := 29) (oi := { dst := some 114, op := Op.binOp BinOp.neq 9 (Operand.tmp 108) (Operand.tmp 113) 9, type := 4, pos := "law.go:101", after := #[{ on := 23, ground := Ground.data }, { on := 28, ground := Ground.data }, { on := 18, ground := Ground.guard }], guard := some (18, false) }) (v := ?_) rfl (by kernel_rfl) (by kernel_rfl) (by kernel_rfl) (fun _ _ _ h => h) (Or.inl ⟨by rfl, ?_⟩) E0.out ?_
          rotate_left
          · (intro w1 hS; go_simp; try with_reducible rfl)
          simp only [Act.put, List.setIfInBounds_toArray, List.set_cons_zero, List.set_cons_succ]
          refine wpAnyH_take (i := 30) (oi := { dst := some 115, op := Op.pick (Operand.tmp 103) (Operand.const (Value.bool true)) (Operand.tmp 114), type := 4, pos := "law.go:101", after := #[{ on := 18, ground := Ground.data }, { on := 29, ground := Ground.data }], guard := none }) (v := ?_) rfl (by kernel_rfl) (by kernel_rfl) (by kernel_rfl) (fun _ _ _ h => h) (Or.inl ⟨by rfl, ?_⟩) E0.out ?_
          rotate_left
          · (intro w1 hS; go_simp; try with_reducible rfl)
          simp only [Act.put, List.setIfInBounds_toArray, List.set_cons_zero, List.set_cons_succ]
          refine wpAnyH_done (by kernel_rfl) ?_ _
          go_wp2_with fail
          refine (NX.out _ E0.out).mono ?_; rintro e w' ⟨rfl, rfl⟩
          go_wp2_with fail
          refine (awake_any _).mono ?_
          rintro e w9 ⟨rfl, hb⟩
          have B9 := Lib.hid ((B6.out.trans (E0.out.mono B6.out.size)).trans (hb.mono (B6.out.trans (E0.out.mono B6.out.size)).size))
          clear hb E0 B6
          go_wp2
          go_ret
          exact ⟨rfl, B9.out⟩
        · go_wp2_with fail
          refine wp_region_held (S := (fun w' : World => Below W.heap.size W w')) (by kernel_rfl) ?_
          change wpAnyH _ _ _ _ _ _ _ _ W.drew
          have hE0 : Below W.heap.size W W.drew := (Below.refl _ _).drew
          generalize W.drew = Y0 at hE0 ⊢
          have E0 := Lib.hid hE0
          clear hE0
          refine wpAnyH_take (i := 0) (oi := { dst := some 85, op := Op.move (Operand.tmp 11), type := 3, pos := "law.go:101", after := #[], guard := none }) (v := ?_) rfl (by kernel_rfl) (by kernel_rfl) (by kernel_rfl) (fun _ _ _ h => h) (Or.inl ⟨by rfl, ?_⟩) E0.out ?_
          rotate_left
          · (intro w1 hS; go_simp; try with_reducible rfl)
          simp only [Act.put, List.setIfInBounds_toArray, List.set_cons_zero, List.set_cons_succ]
          refine wpAnyH_take (i := 1) (oi := { dst := some 86, op := Op.binOp BinOp.neq 3 (Operand.tmp 85) (Operand.const (Value.int IntKind.i64 0)) 3, type := 4, pos := "law.go:101", after := #[{ on := 0, ground := Ground.data }], guard := none }) (v := ?_) rfl (by kernel_rfl) (by kernel_rfl) (by kernel_rfl) (fun _ _ _ h => h) (Or.inl ⟨by rfl, ?_⟩) E0.out ?_
          rotate_left
          · (intro w1 hS; go_simp; try with_reducible rfl)
          simp only [Act.put, List.setIfInBounds_toArray, List.set_cons_zero, List.set_cons_succ]
          refine wpAnyH_take (i := 2) (oi := { dst := some 87, op := Op.move (Operand.tmp 86), type := 4, pos := "law.go:101", after := #[{ on := 1, ground := Ground.data }], guard := none }) (v := ?_) rfl (by kernel_rfl) (by kernel_rfl) (by kernel_rfl) (fun _ _ _ h => h) (Or.inl ⟨by rfl, ?_⟩) E0.out ?_
          rotate_left
          · (intro w1 hS; go_simp; try with_reducible rfl)
          simp only [Act.put, List.setIfInBounds_toArray, List.set_cons_zero, List.set_cons_succ]
          refine wpAnyH_take (i := 3) (oi := { dst := some 88, op := Op.move (Operand.tmp 9), type := 3, pos := "law.go:101", after := #[{ on := 2, ground := Ground.guard }], guard := some (2, false) }) (v := ?_) rfl (by kernel_rfl) (by kernel_rfl) (by kernel_rfl) (fun _ _ _ h => h) (Or.inl ⟨by rfl, ?_⟩) E0.out ?_
          rotate_left
          · (intro w1 hS; go_simp; try with_reducible rfl)
          simp only [Act.put, List.setIfInBounds_toArray, List.set_cons_zero, List.set_cons_succ]
          refine wpAnyH_take (i := 4) (oi := { dst := some 89, op := Op.move (Operand.tmp 14), type := 3, pos := "law.go:101", after := #[{ on := 2, ground := Ground.guard }], guard := some (2, false) }) (v := ?_) rfl (by kernel_rfl) (by kernel_rfl) (by kernel_rfl) (fun _ _ _ h => h) (Or.inl ⟨by rfl, ?_⟩) E0.out ?_
          rotate_left
          · (intro w1 hS; go_simp; try with_reducible rfl)
          simp only [Act.put, List.setIfInBounds_toArray, List.set_cons_zero, List.set_cons_succ]
          refine wpAnyH_take (i := 5) (oi := { dst := some 90, op := Op.binOp BinOp.neq 3 (Operand.tmp 88) (Operand.tmp 89) 3, type := 4, pos := "law.go:101", after := #[{ on := 3, ground := Ground.data }, { on := 4, ground := Ground.data }, { on := 2, ground := Ground.guard }], guard := some (2, false) }) (v := ?_) rfl (by kernel_rfl) (by kernel_rfl) (by kernel_rfl) (fun _ _ _ h => h) (Or.inl ⟨by rfl, ?_⟩) E0.out ?_
          rotate_left
          · (intro w1 hS; go_simp; try with_reducible rfl)
          simp only [Act.put, List.setIfInBounds_toArray, List.set_cons_zero, List.set_cons_succ]
          refine wpAnyH_take (i := 6) (oi := { dst := some 91, op := Op.pick (Operand.tmp 87) (Operand.const (Value.bool true)) (Operand.tmp 90), type := 4, pos := "law.go:101", after := #[{ on := 2, ground := Ground.data }, { on := 5, ground := Ground.data }], guard := none }) (v := ?_) rfl (by kernel_rfl) (by kernel_rfl) (by kernel_rfl) (fun _ _ _ h => h) (Or.inl ⟨by rfl, ?_⟩) E0.out ?_
          rotate_left
          · (intro w1 hS; go_simp; try with_reducible rfl)
          simp only [Act.put, List.setIfInBounds_toArray, List.set_cons_zero, List.set_cons_succ]
          refine wpAnyH_take (i := 7) (oi := { dst := some 92, op := Op.move (Operand.tmp 91), type := 4, pos := "law.go:101", after := #[{ on := 6, ground := Ground.data }, { on := 2, ground := Ground.chain }], guard := none }) (v := ?_) rfl (by kernel_rfl) (by kernel_rfl) (by kernel_rfl) (fun _ _ _ h => h) (Or.inl ⟨by rfl, ?_⟩) E0.out ?_
          rotate_left
          · (intro w1 hS; go_simp; try with_reducible rfl)
          simp only [Act.put, List.setIfInBounds_toArray, List.set_cons_zero, List.set_cons_succ]
          refine wpAnyH_take (i := 8) (oi := { dst := some 93, op := Op.move (Operand.tmp 10), type := 23, pos := "law.go:101", after := #[{ on := 7, ground := Ground.guard }], guard := some (7, false) }) (v := ?_) rfl (by kernel_rfl) (by kernel_rfl) (by kernel_rfl) (fun _ _ _ h => h) (Or.inl ⟨by rfl, ?_⟩) E0.out ?_
          rotate_left
          · (intro w1 hS; go_simp; try with_reducible rfl)
          simp only [Act.put, List.setIfInBounds_toArray, List.set_cons_zero, List.set_cons_succ]
          refine wpAnyH_take (i := 9) (oi := { dst := some 94, op := Op.move (Operand.tmp 0), type := 23, pos := "law.go:101", after := #[{ on := 7, ground := Ground.guard }], guard := some (7, false) }) (v := ?_) rfl (by kernel_rfl) (by kernel_rfl) (by kernel_rfl) (fun _ _ _ h => h) (Or.inl ⟨by rfl, ?_⟩) E0.out ?_
          rotate_left
          · (intro w1 hS; go_simp; try with_reducible rfl)
          simp only [Act.put, List.setIfInBounds_toArray, List.set_cons_zero, List.set_cons_succ]
          refine wpAnyH_take (i := 10) (oi := { dst := some 95, op := Op.binOp BinOp.neq 23 (Operand.tmp 93) (Operand.tmp 94) 23, type := 4, pos := "law.go:101", after := #[{ on := 8, ground := Ground.data }, { on := 9, ground := Ground.data }, { on := 7, ground := Ground.guard }], guard := some (7, false) }) (v := ?_) rfl (by kernel_rfl) (by kernel_rfl) (by kernel_rfl) (fun _ _ _ h => h) (Or.inl ⟨by rfl, ?_⟩) E0.out ?_
          rotate_left
          · (intro w1 hS; go_simp; try with_reducible rfl)
          simp only [Act.put, List.setIfInBounds_toArray, List.set_cons_zero, List.set_cons_succ]
          refine wpAnyH_take (i := 11) (oi := { dst := some 96, op := Op.pick (Operand.tmp 92) (Operand.const (Value.bool true)) (Operand.tmp 95), type := 4, pos := "law.go:101", after := #[{ on := 7, ground := Ground.data }, { on := 10, ground := Ground.data }], guard := none }) (v := ?_) rfl (by kernel_rfl) (by kernel_rfl) (by kernel_rfl) (fun _ _ _ h => h) (Or.inl ⟨by rfl, ?_⟩) E0.out ?_
          rotate_left
          · (intro w1 hS; go_simp; try with_reducible rfl)
          simp only [Act.put, List.setIfInBounds_toArray, List.set_cons_zero, List.set_cons_succ]
          refine wpAnyH_take (i := 12) (oi := { dst := some 97, op := Op.move (Operand.tmp 96), type := 4, pos := "law.go:101", after := #[{ on := 11, ground := Ground.data }, { on := 7, ground := Ground.chain }], guard := none }) (v := ?_) rfl (by kernel_rfl) (by kernel_rfl) (by kernel_rfl) (fun _ _ _ h => h) (Or.inl ⟨by rfl, ?_⟩) E0.out ?_
          rotate_left
          · (intro w1 hS; go_simp; try with_reducible rfl)
          simp only [Act.put, List.setIfInBounds_toArray, List.set_cons_zero, List.set_cons_succ]
          refine wpAnyH_take (i := 13) (oi := { dst := some 98, op := Op.move (Operand.tmp 13), type := 22, pos := "law.go:101", after := #[{ on := 12, ground := Ground.guard }], guard := some (12, false) }) (v := ?_) rfl (by kernel_rfl) (by kernel_rfl) (by kernel_rfl) (fun _ _ _ h => h) (Or.inl ⟨by rfl, ?_⟩) E0.out ?_
          rotate_left
          · (intro w1 hS; go_simp; try with_reducible rfl)
          simp only [Act.put, List.setIfInBounds_toArray, List.set_cons_zero, List.set_cons_succ]
          refine wpAnyH_take (i := 14) (oi := { dst := some 99, op := Op.call { callee := Callee.builtin Builtin.len, args := #[Operand.tmp 98], argTypes := #[22] }, type := 3, pos := "law.go:101", after := #[{ on := 13, ground := Ground.data }, { on := 12, ground := Ground.guard }], guard := some (12, false) }) (v := ?_) rfl (by kernel_rfl) (by kernel_rfl) (by kernel_rfl) (fun _ _ _ h => h) (Or.inl ⟨by rfl, ?_⟩) E0.out ?_
          rotate_left
          · (intro w1 hS; go_simp; try with_reducible rfl)
          simp only [Act.put, List.setIfInBounds_toArray, List.set_cons_zero, List.set_cons_succ]
          refine wpAnyH_take (i := 15) (oi := { dst := some 100, op := Op.move (Operand.tmp 14), type := 3, pos := "law.go:101", after := #[{ on := 12, ground := Ground.guard }], guard := some (12, false) }) (v := ?_) rfl (by kernel_rfl) (by kernel_rfl) (by kernel_rfl) (fun _ _ _ h => h) (Or.inl ⟨by rfl, ?_⟩) E0.out ?_
          rotate_left
          · (intro w1 hS; go_simp; try with_reducible rfl)
          simp only [Act.put, List.setIfInBounds_toArray, List.set_cons_zero, List.set_cons_succ]
          refine wpAnyH_take (i := 16) (oi := { dst := some 101, op := Op.binOp BinOp.neq 3 (Operand.tmp 99) (Operand.tmp 100) 3, type := 4, pos := "law.go:101", after := #[{ on := 14, ground := Ground.data }, { on := 15, ground := Ground.data }, { on := 12, ground := Ground.guard }], guard := some (12, false) }) (v := ?_) rfl (by kernel_rfl) (by kernel_rfl) (by kernel_rfl) (fun _ _ _ h => h) (Or.inl ⟨by rfl, ?_⟩) E0.out ?_
          rotate_left
          · (intro w1 hS; go_simp; try with_reducible rfl)
          simp only [Act.put, List.setIfInBounds_toArray, List.set_cons_zero, List.set_cons_succ]
          refine wpAnyH_take (i := 17) (oi := { dst := some 102, op := Op.pick (Operand.tmp 97) (Operand.const (Value.bool true)) (Operand.tmp 101), type := 4, pos := "law.go:101", after := #[{ on := 12, ground := Ground.data }, { on := 16, ground := Ground.data }], guard := none }) (v := ?_) rfl (by kernel_rfl) (by kernel_rfl) (by kernel_rfl) (fun _ _ _ h => h) (Or.inl ⟨by rfl, ?_⟩) E0.out ?_
          rotate_left
          · (intro w1 hS; go_simp; try with_reducible rfl)
          simp only [Act.put, List.setIfInBounds_toArray, List.set_cons_zero, List.set_cons_succ]
          refine wpAnyH_take (i := 18) (oi := { dst := some 103, op := Op.move (Operand.tmp 102), type := 4, pos := "law.go:101", after := #[{ on := 17, ground := Ground.data }, { on := 12, ground := Ground.chain }], guard := none }) (v := ?_) rfl (by kernel_rfl) (by kernel_rfl) (by kernel_rfl) (fun _ _ _ h => h) (Or.inl ⟨by rfl, ?_⟩) E0.out ?_
          rotate_left
          · (intro w1 hS; go_simp; try with_reducible rfl)
          simp only [Act.put, List.setIfInBounds_toArray, List.set_cons_zero, List.set_cons_succ]
          refine wpAnyH_take (i := 19) (oi := { dst := some 104, op := Op.move (Operand.tmp 13), type := 22, pos := "law.go:101", after := #[{ on := 18, ground := Ground.guard }], guard := some (18, false) }) (v := ?_) rfl (by kernel_rfl) (by kernel_rfl) (by kernel_rfl) (fun _ _ _ h => h) (Or.inl ⟨by rfl, ?_⟩) E0.out ?_
          rotate_left
          · (intro w1 hS; go_simp; try with_reducible rfl)
          simp only [Act.put, List.setIfInBounds_toArray, List.set_cons_zero, List.set_cons_succ]
          refine wpAnyH_take (i := 20) (oi := { dst := some 105, op := Op.move (Operand.tmp 14), type := 3, pos := "law.go:101", after := #[{ on := 18, ground := Ground.guard }], guard := some (18, false) }) (v := ?_) rfl (by kernel_rfl) (by kernel_rfl) (by kernel_rfl) (fun _ _ _ h => h) (Or.inl ⟨by rfl, ?_⟩) E0.out ?_
          rotate_left
          · (intro w1 hS; go_simp; try with_reducible rfl)
          simp only [Act.put, List.setIfInBounds_toArray, List.set_cons_zero, List.set_cons_succ]
          refine wpAnyH_take (i := 21) (oi := { dst := some 106, op := Op.binOp BinOp.sub 3 (Operand.tmp 105) (Operand.const (Value.int IntKind.i64 2)) 3, type := 3, pos := "law.go:101", after := #[{ on := 20, ground := Ground.data }, { on := 18, ground := Ground.guard }], guard := some (18, false) }) (v := ?_) rfl (by kernel_rfl) (by kernel_rfl) (by kernel_rfl) (fun _ _ _ h => h) (Or.inl ⟨by rfl, ?_⟩) E0.out ?_
          rotate_left
          · (intro w1 hS; go_simp; try with_reducible rfl)
          simp only [Act.put, List.setIfInBounds_toArray, List.set_cons_zero, List.set_cons_succ]
          refine wpAnyH_take (i := 22) (oi := { dst := some 107, op := Op.slice 22 (Operand.tmp 104) none (some (Operand.tmp 106)) none, type := 22, pos := "law.go:101", after := #[{ on := 19, ground := Ground.data }, { on := 21, ground := Ground.data }, { on := 18, ground := Ground.guard }], guard := some (18, false) }) (v := ?_) rfl (by kernel_rfl) (by kernel_rfl) (by kernel_rfl) (fun _ _ _ h => h) (Or.inl ⟨by rfl, ?_⟩) E0.out ?_
          rotate_left
          · (intro w1 hS; have hW := hS; have q : (12 : Int) ≤ (c7 : Int) := (by omega); clear hW hS; go_simp; try with_reducible rfl)
          simp only [Act.put, List.setIfInBounds_toArray, List.set_cons_zero, List.set_cons_succ]
          refine wpAnyH_take (i := 23) (oi := { dst := some 108, op := Op.convert 22 9 (Operand.tmp 107), type := 9, pos := "law.go:101", after := #[{ on := 22, ground := Ground.data }, { on := 18, ground := Ground.guard }], guard := some (18, false) }) (v := ?_) rfl (by kernel_rfl) (by kernel_rfl) (by kernel_rfl) (fun _ _ _ h => h) (Or.inl ⟨by rfl, ?_⟩) E0.out ?_
          rotate_left
          · (intro w1 hS; have hW := hS; have q := HCX.out w1 hW; clear hW hS; go_simp; try with_reducible rfl)
          simp only [Act.put, List.setIfInBounds_toArray, List.set_cons_zero, List.set_cons_succ]
          refine wpAnyH_take (i := 24) (oi := { dst := some 109, op := Op.move (Operand.tmp 7), type := 22, pos := "law.go:101", after := #[{ on := 18, ground := Ground.guard }], guard := some (18, false) }) (v := ?_) rfl (by kernel_rfl) (by kernel_rfl) (by kernel_rfl) (fun _ _ _ h => h) (Or.inl ⟨by rfl, ?_⟩) E0.out ?_
          rotate_left
          · (intro w1 hS; go_simp; try with_reducible rfl)
          simp only [Act.put, List.setIfInBounds_toArray, List.set_cons_zero, List.set_cons_succ]
          refine wpAnyH_take (i := 25) (oi := { dst := some 110, op := Op.move (Operand.tmp 14), type := 3, pos := "law.go:101", after := #[{ on := 18, ground := Ground.guard }], guard := some (18, false) }) (v := ?_) rfl (by kernel_rfl) (by kernel_rfl) (by kernel_rfl) (fun _ _ _ h => h) (Or.inl ⟨by rfl, ?_⟩) E0.out ?_
          rotate_left
          · (intro w1 hS; go_simp; try with_reducible rfl)
          simp only [Act.put, List.setIfInBounds_toArray, List.set_cons_zero, List.set_cons_succ]
          refine wpAnyH_take (i := 26) (oi := { dst := some 111, op := Op.binOp BinOp.sub 3 (Operand.tmp 110) (Operand.const (Value.int IntKind.i64 2)) 3, type := 3, pos := "law.go:101", after := #[{ on := 25, ground := Ground.data }, { on := 18, ground := Ground.guard }], guard := some (18, false) }) (v := ?_) rfl (by kernel_rfl) (by kernel_rfl) (by kernel_rfl) (fun _ _ _ h => h) (Or.inl ⟨by rfl, ?_⟩) E0.out ?_
          rotate_left
          · (intro w1 hS; go_simp; try with_reducible rfl)
          simp only [Act.put, List.setIfInBounds_toArray, List.set_cons_zero, List.set_cons_succ]
          refine wpAnyH_take (i := 27) (oi := { dst := some 112, op := Op.slice 22 (Operand.tmp 109) none (some (Operand.tmp 111)) none, type := 22, pos := "law.go:101", after := #[{ on := 24, ground := Ground.data }, { on := 26, ground := Ground.data }, { on := 18, ground := Ground.guard }], guard := some (18, false) }) (v := ?_) rfl (by kernel_rfl) (by kernel_rfl) (by kernel_rfl) (fun _ _ _ h => h) (Or.inl ⟨by rfl, ?_⟩) E0.out ?_
          rotate_left
          · (intro w1 hS; have hW := hS; have q : (12 : Int) ≤ (c5 : Int) := (by omega); clear hW hS; go_simp; try with_reducible rfl)
          simp only [Act.put, List.setIfInBounds_toArray, List.set_cons_zero, List.set_cons_succ]
          refine wpAnyH_take (i := 28) (oi := { dst := some 113, op := Op.convert 22 9 (Operand.tmp 112), type := 9, pos := "law.go:101", after := #[{ on := 27, ground := Ground.data }, { on := 18, ground := Ground.guard }], guard := some (18, false) }) (v := ?_) rfl (by kernel_rfl) (by kernel_rfl) (by kernel_rfl) (fun _ _ _ h => h) (Or.inl ⟨by rfl, ?_⟩) E0.out ?_
          rotate_left
          · (intro w1 hS; have hW := hS; have q := HCZ.out w1 hW; clear hW hS; go_simp; try with_reducible rfl)
          simp only [Act.put, List.setIfInBounds_toArray, List.set_cons_zero, List.set_cons_succ]
          refine wpAnyH_take (i := 29) (oi := { dst := some 114, op := Op.binOp BinOp.neq 9 (Operand.tmp 108) (Operand.tmp 113) 9, type := 4, pos := "law.go:101", after := #[{ on := 23, ground := Ground.data }, { on := 28, ground := Ground.data }, { on := 18, ground := Ground.guard }], guard := some (18, false) }) (v := ?_) rfl (by kernel_rfl) (by kernel_rfl) (by kernel_rfl) (fun _ _ _ h => h) (Or.inl ⟨by rfl, ?_⟩) E0.out ?_
          rotate_left
          · (intro w1 hS; go_simp; try with_reducible rfl)
          simp only [Act.put, List.setIfInBounds_toArray, List.set_cons_zero, List.set_cons_succ]
          refine wpAnyH_take (i := 30) (oi := { dst := some 115, op := Op.pick (Operand.tmp 103) (Operand.const (Value.bool true)) (Operand.tmp 114), type := 4, pos := "law.go:101", after := #[{ on := 18, ground := Ground.data }, { on := 29, ground := Ground.data }], guard := none }) (v := ?_) rfl (by kernel_rfl) (by kernel_rfl) (by kernel_rfl) (fun _ _ _ h => h) (Or.inl ⟨by rfl, ?_⟩) E0.out ?_
          rotate_left
          · (intro w1 hS; go_simp; try with_reducible rfl)
          simp only [Act.put, List.setIfInBounds_toArray, List.set_cons_zero, List.set_cons_succ]
          refine wpAnyH_done (by kernel_rfl) ?_ _
          go_wp2_with fail
          refine (NX.out _ E0.out).mono ?_; rintro e w' ⟨rfl, rfl⟩
          go_wp2_with fail
          refine (awake_any _).mono ?_
          rintro e w9 ⟨rfl, hb⟩
          have B9 := Lib.hid ((B6.out.trans (E0.out.mono B6.out.size)).trans (hb.mono (B6.out.trans (E0.out.mono B6.out.size)).size))
          clear hb E0 B6
          go_wp2
          go_ret
          exact ⟨rfl, B9.out⟩
      · have hne := Lib.hid (HN.out.2 hip)
        rw [hne.out] at NN
        have g1 : ((k : Int) != 2048) = true := by simp; omega
        have g2 : ((k : Int) != 34525) = true := by simp; omega
        clear hip
        go_wp2_with fail
        refine NN.out.mono ?_; rintro e w' ⟨rfl, rfl⟩
        clear NN HN
        go_wp2_with fail
        refine (with_noB _ _ 2048 _ R5.out HZ.out (by rw [hne.out]; decide)).mono ?_
        rintro e w6 ⟨rfl, hb⟩
        have B6 := Lib.hid (B5.out.trans (hb.mono B5.out.size))
        clear hb R5 B5 HZ hne
        go_wp2_with fail
        refine (awake_any _).mono ?_
        rintro e w7 ⟨rfl, hb⟩
        have B7 := Lib.hid (B6.out.trans (hb.mono B6.out.size))
        clear hb B6
        go_wp2
        go_ret
        exact ⟨rfl, B7.out⟩

set_option maxRecDepth 100000 in
set_option maxHeartbeats 4000000 in
theorem kinds_bare6 (k : Nat) (w : World) (hk : k < 65536) :
    Calls Try.prog 6 #[.int .u16 (k : Int), .bool false, .bool true] w fun e w' => e = .returned (.bool true) ∧ Below w.heap.size w w' := by
  have hi1 : IntKind.u8.wrap ((k : Int) / 256) = ((k / 256 : Nat) : Int) := by rw [IntKind.wrap_u8]; omega
  have lo1 := lo_i64 k
  have HK := Lib.hid hk
  obtain ⟨i0, hi, hz0, hz1, hz2⟩ := info_parts Try.info5
  have hbase : w.heap.size ≤ w.heap.size := Nat.le_refl _
  go_enter Try.func6, Try.ntmps6
  go_wp2_with (at_make; refine wpList_make_full _ rfl _ _ 22 rfl w.heap.size 5 i0 (.int .u8 0) 1 Try.underlying22 hi hz0 hz1 .i64 .i64 _ _ 12 rfl rfl ?c1 ?c2 ?c3 ?c4 hbase ?_)
  case c1 => omega
  case c2 => omega
  case c3 => rw [hz2]; omega
  case c4 => unfold maxLen; omega
  intro w1 o1 g1
  have B1 := Lib.hid ((Below.refl w.heap.size w).grown g1 (Nat.le_refl _) (fun k hk => by cases hk))
  rw [toList_madeCells_one] at o1
  have O1 := Lib.hid (show w1.ownsRow w.heap.size 5 1 (.slice (some ⟨w.heap.size, 0, none⟩) 12 12) 12 (nus .u8 (pref12 0)) from o1)
  clear o1 g1 hi hz0 hz1 hz2 hbase
  go_wp2
  go_loopw [8] (fun i wr => ∃ j : Nat, j ≤ 12 ∧ i = .int .i64 j ∧ wr.ownsRow w.heap.size 5 1 (.slice (some ⟨w.heap.size, 0, none⟩) 12 12) 12 (nus .u8 (pref12 j)) ∧ Below w.heap.size w wr) (fun i _ => 12 - (intOf i).toNat)
  case atStart => exact ⟨0, by omega, rfl, O1.out, B1.out⟩
  case round =>
    obtain ⟨j, hj, rfl, hown, hbl⟩ := hrel
    clear O1 B1
    by_cases h1 : j < 12
    · have hcell := hown.cellAt j (by omega)
      rw [nus_get _ _ _ (by rw [pref12_length j hj]; omega)] at hcell
      have hfz := hown.frozenAt j
      have hst := hown.stored j (.int .u8 ((7 * j + 3 : Nat) : Int))
      rw [nus_set, pref12_step j h1] at hst
      have hw := Lib.hid (hbl.grown hst.2 hbl.size (fun k e => by cases e; exact Nat.le_refl _))
      have HS := Lib.hid hst.1
      have he : IntKind.u8.wrap (7 * (j : Int) + 3) = ((7 * j + 3 : Nat) : Int) := by rw [IntKind.wrap_u8]; omega
      obtain ⟨x, hx⟩ : ∃ x, x = (pref12 j).getD j 0 := ⟨_, rfl⟩
      rw [← hx] at hcell
      clear hown hbl hst hx hi1 lo1
      go_wp2
      go_roundw
      case rel => exact ⟨j + 1, by omega, by go_num, HS.out, hw.out⟩
      case measure => simp [intOf]; omega
    · obtain rfl : j = 12 := by omega
      rw [pref12_all] at hown
      have O2 := Lib.hid hown
      have B2 := Lib.hid hbl
      clear hown hbl h1
      have ec : (#[.int .u8 ((k : Int) / 256), .int .u8 ((k : Int) % 256), .int .u8 9, .int .u8 9, .int .u8 9, .int .u8 9, .int .u8 9] : Array Value) = (nus .u8 [k / 256, k % 256, 9, 9, 9, 9, 9]).toArray := by simp [nus]
      have b5 := (Below.refl wr.heap.size wr).alloc (Nat.le_refl _) (.cells (nus .u8 [k / 256, k % 256, 9, 9, 9, 9, 9]).toArray 5)
      have r5 := rd_lit wr .u8 5 [k / 256, k % 256, 9, 9, 9, 9, 9] 7 (0, 0) rfl (by simp [maxLen])
      have O5a := Lib.hid (row_under O2.out b5)
      have R5a := Lib.hid r5
      have B5a := Lib.hid (B2.out.trans (b5.mono B2.out.size))
      clear b5 r5 O2 B2
      go_wp2_with (at_builtin; refine wpList_app rfl (.tmp 34) (.tmp 40) rfl w.heap.size _ 12 (P12) rfl O5a.out (some _) 7 7 [k / 256, k % 256, 9, 9, 9, 9, 9] rfl R5a.out ?c51 ?c52 ?c53 ?c54)
      case c51 => intro e; cases e
      case c52 => omega
      case c53 => exact B5a.out.size
      intro v5 w5 o5 g5
      have O5 := Lib.hid (show w5.ownsRow w.heap.size 5 1 v5 19 (nus .u8 (P12 ++ [k / 256, k % 256, 9, 9, 9, 9, 9])) from o5)
      have B5 := Lib.hid (B5a.out.grown g5 B5a.out.size (fun k e => (O5a.out.lt k e).1))
      clear o5 g5 O5a R5a B5a
      clear ec hi1 lo1
      have h5 := O5.out
      obtain ⟨-, ⟨rfl, h0⟩ | ⟨g, c5, cur, rfl, -, -, hc5, hm5, -⟩⟩ := h5
      · cases h0
      unfold maxLen at hm5
      have R5 := Lib.hid (Rd.own O5.out)
      have HL := Lib.hid (show (P12 ++ [k / 256, k % 256, 9, 9, 9, 9, 9]).length = 19 from rfl)
      have HZ : Hid (∀ c ∈ P12 ++ [k / 256, k % 256, 9, 9, 9, 9, 9], c < 256) := by
        show ∀ c ∈ _, c < 256
        have := HK.out
        intro c hc
        rcases List.mem_append.1 hc with hc | hc
        · exact p12_lt c hc
        · simp only [List.mem_cons, List.not_mem_nil, or_false] at hc
          omega
      have HN := Lib.hid (kinds_bare_net k)
      have NN := Lib.hid (net_any _ _ _ R5.out HZ.out)
      clear O5
      by_cases hip : k = 2048 ∨ k = 34525
      · have hne := Lib.hid (HN.out.1 hip)
        rw [hne.out] at NN
        go_wp2_with fail
        refine NN.out.mono ?_; rintro e w' ⟨rfl, rfl⟩
        clear NN HN
        go_wp2_with fail
        refine (with_yes _ _ 34525 12 _ R5.out HZ.out (by decide) (by rw [hne.out]) (by rw [hne.out]) (by rw [HL.out]; decide) (by decide)).mono ?_
        rintro e W ⟨x, rfl, ho, hb⟩
        have B6 := Lib.hid (B5.out.trans (hb.mono B5.out.size))
        have RZ := Lib.hid (R5.out.below hb)
        have RX0 := Rd.own ho
        obtain ⟨-, ⟨rfl, h0⟩ | ⟨g7, c7, cur7, rfl, -, -, hc7, hm7, -⟩⟩ := ho
        · cases h0
        unfold maxLen at hm7
        have htk : (P12 ++ [k / 256, k % 256, 9, 9, 9, 9, 9]).take 12 ++ bg 2 34525 = P12 ++ [134, 221] := by simp [P12, bg]
        rw [htk] at RX0
        have RX := Lib.hid RX0
        clear hb RX0 htk R5 B5 HZ hne
        have hcx : ∀ W', Below W.heap.size W W' → (convert 22 9 (.slice (some ⟨g7, 0, none⟩) 12 c7)).run Try.prog W' = .ok (.string (str (P12))) W' := fun W' hW' =>
          conv_rd W' 22 9 5 Try.underlying22 Try.underlying5 Try.underlying9 _ _ ((RX.out.front 12 (by decide)).below hW')
        have hcz : ∀ W', Below W.heap.size W W' → (convert 22 9 (.slice (some ⟨g, 0, none⟩) 12 c5)).run Try.prog W' = .ok (.string (str (P12))) W' := fun W' hW' =>
          conv_rd W' 22 9 5 Try.underlying22 Try.underlying5 Try.underlying9 _ _ ((RZ.out.front 12 (by rw [HL.out]; decide)).below hW')
        obtain ⟨T, hT⟩ : ∃ T, T = str (P12) := ⟨_, rfl⟩
        rw [← hT] at hcx hcz
        have HCX := Lib.hid hcx
        have HCZ := Lib.hid hcz
        have NX := Lib.hid (fun W' (h : Below W.heap.size W W') => net_any _ _ W' (RX.out.below h) (by decide))
        rw [show net (P12 ++ [134, 221]) = (14, 34525, 0) from by decide] at NX
        clear hT hcx hcz RX RZ HL
        have hws : IntKind.i64.wrap (12 : Int) = 12 := by decide
        rcases hip with rfl | rfl
        · go_wp2_with fail
          refine wp_region_held (S := (fun w' : World => Below W.heap.size W w')) (by kernel_rfl) ?_
          change wpAnyH _ _ _ _ _ _ _ _ W.drew
          have hE0 : Below W.heap.size W W.drew := (Below.refl _ _).drew
          generalize W.drew = Y0 at hE0 ⊢
          have E0 := Lib.hid hE0
          clear hE0
          refine wpAnyH_take (i := 0) (oi := { dst := some 85, op := Op.move (Operand.tmp 11), type := 3, pos := "law.go:101", after := #[], guard := none }) (v := ?_) rfl (by kernel_rfl) (by kernel_rfl) (by kernel_rfl) (fun _ _ _ h => h) (Or.inl ⟨by rfl, ?_⟩) E0.out ?_
          rotate_left
          · (intro w1 hS; go_simp; try with_reducible rfl)
          simp only [Act.put, List.setIfInBounds_toArray, List.set_cons_zero, List.set_cons_succ]
          refine wpAnyH_take (i := 1) (oi := { dst := some 86, op := Op.binOp BinOp.neq 3 (Operand.tmp 85) (Operand.const (Value.int IntKind.i64 0)) 3, type := 4, pos := "law.go:101", after := #[{ on := 0, ground := Ground.data }], guard := none }) (v := ?_) rfl (by kernel_rfl) (by kernel_rfl) (by kernel_rfl) (fun _ _ _ h => h) (Or.inl ⟨by rfl, ?_⟩) E0.out ?_
          rotate_left
          · (intro w1 hS; go_simp; try with_reducible rfl)
          simp only [Act.put, List.setIfInBounds_toArray, List.set_cons_zero, List.set_cons_succ]
          refine wpAnyH_take (i := 2) (oi := { dst := some 87, op := Op.move (Operand.tmp 86), type := 4, pos := "law.go:101", after := #[{ on := 1, ground := Ground.data }], guard := none }) (v := ?_) rfl (by kernel_rfl) (by kernel_rfl) (by kernel_rfl) (fun _ _ _ h => h) (Or.inl ⟨by rfl, ?_⟩) E0.out ?_
          rotate_left
          · (intro w1 hS; go_simp; try with_reducible rfl)
          simp only [Act.put, List.setIfInBounds_toArray, List.set_cons_zero, List.set_cons_succ]
          refine wpAnyH_take (i := 3) (oi := { dst := some 88, op := Op.move (Operand.tmp 9), type := 3, pos := "law.go:101", after := #[{ on := 2, ground := Ground.guard }], guard := some (2, false) }) (v := ?_) rfl (by kernel_rfl) (by kernel_rfl) (by kernel_rfl) (fun _ _ _ h => h) (Or.inl ⟨by rfl, ?_⟩) E0.out ?_
          rotate_left
          · (intro w1 hS; go_simp; try with_reducible rfl)
          simp only [Act.put, List.setIfInBounds_toArray, List.set_cons_zero, List.set_cons_succ]
          refine wpAnyH_take (i := 4) (oi := { dst := some 89, op := Op.move (Operand.tmp 14), type := 3, pos := "law.go:101", after := #[{ on := 2, ground := Ground.guard }], guard := some (2, false) }) (v := ?_) rfl (by kernel_rfl) (by kernel_rfl) (by kernel_rfl) (fun _ _ _ h => h) (Or.inl ⟨by rfl, ?_⟩) E0.out ?_
          rotate_left
          · (intro w1 hS; go_simp; try with_reducible rfl)
          simp only [Act.put, List.setIfInBounds_toArray, List.set_cons_zero, List.set_cons_succ]
          refine wpAnyH_take (i := 5) (oi := { dst := some 90, op := Op.binOp BinOp.neq 3 (Operand.tmp 88) (Operand.tmp 89) 3, type := 4, pos := "law.go:101", after := #[{ on := 3, ground := Ground.data }, { on := 4, ground := Ground.data }, { on := 2, ground := Ground.guard }], guard := some (2, false) }) (v := ?_) rfl (by kernel_rfl) (by kernel_rfl) (by kernel_rfl) (fun _ _ _ h => h) (Or.inl ⟨by rfl, ?_⟩) E0.out ?_
          rotate_left
          · (intro w1 hS; go_simp; try with_reducible rfl)
          simp only [Act.put, List.setIfInBounds_toArray, List.set_cons_zero, List.set_cons_succ]
          refine wpAnyH_take (i := 6) (oi := { dst := some 91, op := Op.pick (Operand.tmp 87) (Operand.const (Value.bool true)) (Operand.tmp 90), type := 4, pos := "law.go:101", after := #[{ on := 2, ground := Ground.data }, { on := 5, ground := Ground.data }], guard := none }) (v := ?_) rfl (by kernel_rfl) (by kernel_rfl) (by kernel_rfl) (fun _ _ _ h => h) (Or.inl ⟨by rfl, ?_⟩) E0.out ?_
          rotate_left
          · (intro w1 hS; go_simp; try with_reducible rfl)
          simp only [Act.put, List.setIfInBounds_toArray, List.set_cons_zero, List.set_cons_succ]
          refine wpAnyH_take (i := 7) (oi := { dst := some 92, op := Op.move (Operand.tmp 91), type := 4, pos := "law.go:101", after := #[{ on := 6, ground := Ground.data }, { on := 2, ground := Ground.chain }], guard := none }) (v := ?_) rfl (by kernel_rfl) (by kernel_rfl) (by kernel_rfl) (fun _ _ _ h => h) (Or.inl ⟨by rfl, ?_⟩) E0.out ?_
          rotate_left
          · (intro w1 hS; go_simp; try with_reducible rfl)
          simp only [Act.put, List.setIfInBounds_toArray, List.set_cons_zero, List.set_cons_succ]
          refine wpAnyH_take (i := 8) (oi := { dst := some 93, op := Op.move (Operand.tmp 10), type := 23, pos := "law.go:101", after := #[{ on := 7, ground := Ground.guard }], guard := some (7, false) }) (v := ?_) rfl (by kernel_rfl) (by kernel_rfl) (by kernel_rfl) (fun _ _ _ h => h) (Or.inl ⟨by rfl, ?_⟩) E0.out ?_
          rotate_left
          · (intro w1 hS; go_simp; try with_reducible rfl)
          simp only [Act.put, List.setIfInBounds_toArray, List.set_cons_zero, List.set_cons_succ]
          refine wpAnyH_take (i := 9) (oi := { dst := some 94, op := Op.move (Operand.tmp 0), type := 23, pos := "law.go:101", after := #[{ on := 7, ground := Ground.guard }], guard := some (7, false) }) (v := ?_) rfl (by kernel_rfl) (by kernel_rfl) (by kernel_rfl) (fun _ _ _ h => h) (Or.inl ⟨by rfl, ?_⟩) E0.out ?_
          rotate_left
          · (intro w1 hS; go_simp; try with_reducible rfl)
          simp only [Act.put, List.setIfInBounds_toArray, List.set_cons_zero, List.set_cons_succ]
          refine wpAnyH_take (i := 10) (oi := { dst := some 95, op := Op.binOp BinOp.neq 23 (Operand.tmp 93) (Operand.tmp 94) 23, type := 4, pos := "law.go:101", after := #[{ on := 8, ground := Ground.data }, { on := 9, ground := Ground.data }, { on := 7, ground := Ground.guard }], guard := some (7, false) }) (v := ?_) rfl (by kernel_rfl) (by kernel_rfl) (by kernel_rfl) (fun _ _ _ h => h) (Or.inl ⟨by rfl, ?_⟩) E0.out ?_
          rotate_left
          · (intro w1 hS; go_simp; try with_reducible rfl)
          simp only [Act.put, List.setIfInBounds_toArray, List.set_cons_zero, List.set_cons_succ]
          refine wpAnyH_take (i := 11) (oi := { dst := some 96, op := Op.pick (Operand.tmp 92) (Operand.const (Value.bool true)) (Operand.tmp 95), type := 4, pos := "law.go:101", after := #[{ on := 7, ground := Ground.data }, { on := 10, ground := Ground.data }], guard := none }) (v := ?_) rfl (by kernel_rfl) (by kernel_rfl) (by kernel_rfl) (fun _ _ _ h => h) (Or.inl ⟨by rfl, ?_⟩) E0.out ?_
          rotate_left
          · (intro w1 hS; go_simp; try with_reducible rfl)
          simp only [Act.put, List.setIfInBounds_toArray, List.set_cons_zero, List.set_cons_succ]
          refine wpAnyH_take (i := 12) (oi := { dst := some 97, op := Op.move (Operand.tmp 96), type := 4, pos := "law.go:101", after := #[{ on := 11, ground := Ground.data }, { on := 7, ground := Ground.chain }], guard := none }) (v := ?_) rfl (by kernel_rfl) (by kernel_rfl) (by kernel_rfl) (fun _ _ _ h => h) (Or.inl ⟨by rfl, ?_⟩) E0.out ?_
          rotate_left
          · (intro w1 hS; go_simp; try with_reducible rfl)
          simp only [Act.put, List.setIfInBounds_toArray, List.set_cons_zero, List.set_cons_succ]
          refine wpAnyH_take (i := 13) (oi := { dst := some 98, op := Op.move (Operand.tmp 13), type := 22, pos := "law.go:101", after := #[{ on := 12, ground := Ground.guard }], guard := some (12, false) }) (v := ?_) rfl (by kernel_rfl) (by kernel_rfl) (by kernel_rfl) (fun _ _ _ h => h) (Or.inl ⟨by rfl, ?_⟩) E0.out ?_
          rotate_left
          · (intro w1 hS; go_simp; try with_reducible rfl)
          simp only [Act.put, List.setIfInBounds_toArray, List.set_cons_zero, List.set_cons_succ]
          refine wpAnyH_take (i := 14) (oi := { dst := some 99, op := Op.call { callee := Callee.builtin Builtin.len, args := #[Operand.tmp 98], argTypes := #[22] }, type := 3, pos := "law.go:101", after := #[{ on := 13, ground := Ground.data }, { on := 12, ground := Ground.guard }], guard := some (12, false) }) (v := ?_) rfl (by kernel_rfl) (by kernel_rfl) (by kernel_rfl) (fun _ _ _ h => h) (Or.inl ⟨by rfl, ?_⟩) E0.out ?_
          rotate_left
          · (intro w1 hS; go_simp; try with_reducible rfl)
          simp only [Act.put, List.setIfInBounds_toArray, List.set_cons_zero, List.set_cons_succ]
          refine wpAnyH_take (i := 15) (oi := { dst := some 100, op := Op.move (Operand.tmp 14), type := 3, pos := "law.go:101", after := #[{ on := 12, ground := Ground.guard }], guard := some (12, false) }) (v := ?_) rfl (by kernel_rfl) (by kernel_rfl) (by kernel_rfl) (fun _ _ _ h => h) (Or.inl ⟨by rfl, ?_⟩) E0.out ?_
          rotate_left
          · (intro w1 hS; go_simp; try with_reducible rfl)
          simp only [Act.put, List.setIfInBounds_toArray, List.set_cons_zero, List.set_cons_succ]
          refine wpAnyH_take (i := 16) (oi := { dst := some 101, op := Op.binOp BinOp.neq 3 (Operand.tmp 99) (Operand.tmp 100) 3, type := 4, pos := "law.go:101", after := #[{ on := 14, ground := Ground.data }, { on := 15, ground := Ground.data }, { on := 12, ground := Ground.guard }], guard := some (12, false) }) (v := ?_) rfl (by kernel_rfl) (by kernel_rfl) (by kernel_rfl) (fun _ _ _ h => h) (Or.inl ⟨by rfl, ?_⟩) E0.out ?_
          rotate_left
          · (intro w1 hS; go_simp; try with_reducible rfl)
          simp only [Act.put, List.setIfInBounds_toArray, List.set_cons_zero, List.set_cons_succ]
          refine wpAnyH_take (i := 17) (oi := { dst := some 102, op := Op.pick (Operand.tmp 97) (Operand.const (Value.bool true)) (Operand.tmp 101), type := 4, pos := "law.go:101", after := #[{ on := 12, ground := Ground.data }, { on := 16, ground := Ground.data }], guard := none }) (v := ?_) rfl (by kernel_rfl) (by kernel_rfl) (by kernel_rfl) (fun _ _ _ h => h) (Or.inl ⟨by rfl, ?_⟩) E0.out ?_
          rotate_left
          · (intro w1 hS; go_simp; try with_reducible rfl)
          simp only [Act.put, List.setIfInBounds_toArray, List.set_cons_zero, List.set_cons_succ]
          refine wpAnyH_take (i := 18) (oi := { dst := some 103, op := Op.move (Operand.tmp 102), type := 4, pos := "law.go:101", after := #[{ on := 17, ground := Ground.data }, { on := 12, ground := Ground.chain }], guard := none }) (v := ?_) rfl (by kernel_rfl) (by kernel_rfl) (by kernel_rfl) (fun _ _ _ h => h) (Or.inl ⟨by rfl, ?_⟩) E0.out ?_
          rotate_left
          · (intro w1 hS; go_simp; try with_reducible rfl)
          simp only [Act.put, List.setIfInBounds_toArray, List.set_cons_zero, List.set_cons_succ]
          refine wpAnyH_take (i := 19) (oi := { dst := some 104, op := Op.move (Operand.tmp 13), type := 22, pos := "law.go:101", after := #[{ on := 18, ground := Ground.guard }], guard := some (18, false) }) (v := ?_) rfl (by kernel_rfl) (by kernel_rfl) (by kernel_rfl) (fun _ _ _ h => h) (Or.inl ⟨by rfl, ?_⟩) E0.out ?_
          rotate_left
          · (intro w1 hS; go_simp; try with_reducible rfl)
          simp only [Act.put, List.setIfInBounds_toArray, List.set_cons_zero, List.set_cons_succ]
          refine wpAnyH_take (i := 20) (oi := { dst := some 105, op := Op.move (Operand.tmp 14), type := 3, pos := "law.go:101", after := #[{ on := 18, ground := Ground.guard }], guard := some (18, false) }) (v := ?_) rfl (by kernel_rfl) (by kernel_rfl) (by kernel_rfl) (fun _ _ _ h => h) (Or.inl ⟨by rfl, ?_⟩) E0.out ?_
          rotate_left
          · (intro w1 hS; go_simp; try with_reducible rfl)
          simp only [Act.put, List.setIfInBounds_toArray, List.set_cons_zero, List.set_cons_succ]
          refine wpAnyH_take (i := 21) (oi := { dst := some 106, op := Op.binOp BinOp.sub 3 (Operand.tmp 105) (Operand.const (Value.int IntKind.i64 2)) 3, type := 3, pos := "law.go:101", after := #[{ on := 20, ground := Ground.data }, { on := 18, ground := Ground.guard }], guard := some (18, false) }) (v := ?_) rfl (by kernel_rfl) (by kernel_rfl) (by kernel_rfl) (fun _ _ _ h => h) (Or.inl ⟨by rfl, ?_⟩) E0.out ?_
          rotate_left
          · (intro w1 hS; go_simp; try with_reducible rfl)
          simp only [Act.put, List.setIfInBounds_toArray, List.set_cons_zero, List.set_cons_succ]
          refine wpAnyH_take (i := 22) (oi := { dst := some 107, op := Op.slice 22 (Operand.tmp 104) none (some (Operand.tmp 106)) none, type := 22, pos := "law.go:101", after := #[{ on := 19, ground := Ground.data }, { on := 21, ground := Ground.data }, { on := 18, ground := Ground.guard }], guard := some (18, false) }) (v := ?_) rfl (by kernel_rfl) (by kernel_rfl) (by kernel_rfl) (fun _ _ _ h => h) (Or.inl ⟨by rfl, ?_⟩) E0.out ?_
          rotate_left
          · (intro w1 hS; have hW := hS; have q : (12 : Int) ≤ (c7 : Int) := (by omega); clear hW hS; go_simp; try with_reducible rfl)
          simp only [Act.put, List.setIfInBounds_toArray, List.set_cons_zero, List.set_cons_succ]
          refine wpAnyH_take (i := 23) (oi := { dst := some 108, op := Op.convert 22 9 (Operand.tmp 107), type := 9, pos := "law.go:101", after := #[{ on := 22, ground := Ground.data }, { on := 18, ground := Ground.guard }], guard := some (18, false) }) (v := ?_) rfl (by kernel_rfl) (by kernel_rfl) (by kernel_rfl) (fun _ _ _ h => h) (Or.inl ⟨by rfl, ?_⟩) E0.out ?_
          rotate_left
          · (intro w1 hS; have hW := hS; have q := HCX.out w1 hW; clear hW hS; go_simp; try with_reducible rfl)
          simp only [Act.put, List.setIfInBounds_toArray, List.set_cons_zero, List.set_cons_succ]
          refine wpAnyH_take (i := 24) (oi := { dst := some 109, op := Op.move (Operand.tmp 7), type := 22, pos := "law.go:101", after := #[{ on := 18, ground := Ground.guard }], guard := some (18, false) }) (v := ?_) rfl (by kernel_rfl) (by kernel_rfl) (by kernel_rfl) (fun _ _ _ h => h) (Or.inl ⟨by rfl, ?_⟩) E0.out ?_
          rotate_left
          · (intro w1 hS; go_simp; try with_reducible rfl)
          simp only [Act.put, List.setIfInBounds_toArray, List.set_cons_zero, List.set_cons_succ]
          refine wpAnyH_take (i := 25) (oi := { dst := some 110, op := Op.move (Operand.tmp 14), type := 3, pos := "law.go:101", after := #[{ on := 18, ground := Ground.guard }], guard := some (18, false) }) (v := ?_) rfl (by kernel_rfl) (by kernel_rfl) (by kernel_rfl) (fun _ _ _ h => h) (Or.inl ⟨by rfl, ?_⟩) E0.out ?_
          rotate_left
          · (intro w1 hS; go_simp; try with_reducible rfl)
          simp only [Act.put, List.setIfInBounds_toArray, List.set_cons_zero, List.set_cons_succ]
          refine wpAnyH_take (i := 26) (oi := { dst := some 111, op := Op.binOp BinOp.sub 3 (Operand.tmp 110) (Operand.const (Value.int IntKind.i64 2)) 3, type := 3, pos := "law.go:101", after := #[{ on := 25, ground := Ground.data }, { on := 18, ground := Ground.guard }], guard := some (18, false) }) (v := ?_) rfl (by kernel_rfl) (by kernel_rfl) (by kernel_rfl) (fun _ _ _ h => h) (Or.inl ⟨by rfl, ?_⟩) E0.out ?_
          rotate_left
          · (intro w1 hS; go_simp; try with_reducible rfl)
          simp only [Act.put, List.setIfInBounds_toArray, List.set_cons_zero, List.set_cons_succ]
          refine wpAnyH_take (i := 27) (oi := { dst := some 112, op := Op.slice 22 (Operand.tmp 109) none (some (Operand.tmp 111)) none, type := 22, pos := "law.go:101", after := #[{ on := 24, ground := Ground.data }, { on := 26, ground := Ground.data }, { on := 18, ground := Ground.guard }], guard := some (18, false) }) (v := ?_) rfl (by kernel_rfl) (by kernel_rfl) (by kernel_rfl) (fun _ _ _ h => h) (Or.inl ⟨by rfl, ?_⟩) E0.out ?_
          rotate_left
          · (intro w1 hS; have hW := hS; have q : (12 : Int) ≤ (c5 : Int) := (by omega); clear hW hS; go_simp; try with_reducible rfl)
          simp only [Act.put, List.setIfInBounds_toArray, List.set_cons_zero, List.set_cons_succ]
          refine wpAnyH_take (i := 28) (oi := { dst := some 113, op := Op.convert 22 9 (Operand.tmp 112), type := 9, pos := "law.go:101", after := #[{ on := 27, ground := Ground.data }, { on := 18, ground := Ground.guard }], guard := some (18, false) }) (v := ?_) rfl (by kernel_rfl) (by kernel_rfl) (by kernel_rfl) (fun _ _ _ h => h) (Or.inl ⟨by rfl, ?_⟩) E0.out ?_
          rotate_left
          · (intro w1 hS; have hW := hS; have q := HCZ.out w1 hW; clear hW hS; go_simp; try with_reducible rfl)
          simp only [Act.put, List.setIfInBounds_toArray, List.set_cons_zero, List.set_cons_succ]
          refine wpAnyH_take (i := 29) (oi := { dst := some 114, op := Op.binOp BinOp.neq 9 (Operand.tmp 108) (Operand.tmp 113) 9, type := 4, pos := "law.go:101", after := #[{ on := 23, ground := Ground.data }, { on := 28, ground := Ground.data }, { on := 18, ground := Ground.guard }], guard := some (18, false) }) (v := ?_) rfl (by kernel_rfl) (by kernel_rfl) (by kernel_rfl) (fun _ _ _ h => h) (Or.inl ⟨by rfl, ?_⟩) E0.out ?_
          rotate_left
          · (intro w1 hS; go_simp; try with_reducible rfl)
          simp only [Act.put, List.setIfInBounds_toArray, List.set_cons_zero, List.set_cons_succ]
          refine wpAnyH_take (i := 30) (oi := { dst := some 115, op := Op.pick (Operand.tmp 103) (Operand.const (Value.bool true)) (Operand.tmp 114), type := 4, pos := "law.go:101", after := #[{ on := 18, ground := Ground.data }, { on := 29, ground := Ground.data }], guard := none }) (v := ?_) rfl (by kernel_rfl) (by kernel_rfl) (by kernel_rfl) (fun _ _ _ h => h) (Or.inl ⟨by rfl, ?_⟩) E0.out ?_
          rotate_left
          · (intro w1 hS; go_simp; try with_reducible rfl)
          simp only [Act.put, List.setIfInBounds_toArray, List.set_cons_zero, List.set_cons_succ]
          refine wpAnyH_done (by kernel_rfl) ?_ _
          go_wp2_with fail
          refine (NX.out _ E0.out).mono ?_; rintro e w' ⟨rfl, rfl⟩
          go_wp2_with fail
          refine (awake_any _).mono ?_
          rintro e w9 ⟨rfl, hb⟩
          have B9 := Lib.hid ((B6.out.trans (E0.out.mono B6.out.size)).trans (hb.mono (B6.out.trans (E0.out.mono B6.out.size)).size))
          clear hb E0 B6
          go_wp2
          go_ret
          exact ⟨rfl, B9.out⟩
        · go_wp2_with fail
          refine wp_region_held (S := (fun w' : World => Below W.heap.size W w')) (by kernel_rfl) ?_
          change wpAnyH _ _ _ _ _ _ _ _ W.drew
          have hE0 : Below W.heap.size W W.drew := (Below.refl _ _).drew
          generalize W.drew = Y0 at hE0 ⊢
          have E0 := Lib.hid hE0
          clear hE0
          refine wpAnyH_take (i := 0) (oi := { dst := some 85, op := Op.move (Operand.tmp 11), type := 3, pos := "law.go:101", after := #[], guard := none }) (v := ?_) rfl (by kernel_rfl) (by kernel_rfl) (by kernel_rfl) (fun _ _ _ h => h) (Or.inl ⟨by rfl, ?_⟩) E0.out ?_
          rotate_left
          · (intro w1 hS; go_simp; try with_reducible rfl)
          simp only [Act.put, List.setIfInBounds_toArray, List.set_cons_zero, List.set_cons_succ]
          refine wpAnyH_take (i := 1) (oi := { dst := some 86, op := Op.binOp BinOp.neq 3 (Operand.tmp 85) (Operand.const (Value.int IntKind.i64 0)) 3, type := 4, pos := "law.go:101", after := #[{ on := 0, ground := Ground.data }], guard := none }) (v := ?_) rfl (by kernel_rfl) (by kernel_rfl) (by kernel_rfl) (fun _ _ _ h => h) (Or.inl ⟨by rfl, ?_⟩) E0.out ?_
          rotate_left
          · (intro w1 hS; go_simp; try with_reducible rfl)
          simp only [Act.put, List.setIfInBounds_toArray, List.set_cons_zero, List.set_cons_succ]
          refine wpAnyH_take (i := 2) (oi := { dst := some 87, op := Op.move (Operand.tmp 86), type := 4, pos := "law.go:101", after := #[{ on := 1, ground := Ground.data }], guard := none }) (v := ?_) rfl (by kernel_rfl) (by kernel_rfl) (by kernel_rfl) (fun _ _ _ h => h) (Or.inl ⟨by rfl, ?_⟩) E0.out ?_
          rotate_left
          · (intro w1 hS; go_simp; try with_reducible rfl)
          simp only [Act.put, List.setIfInBounds_toArray, List.set_cons_zero, List.set_cons_succ]
          refine wpAnyH_take (i := 3) (oi := { dst := some 88, op := Op.move (Operand.tmp 9), type := 3, pos := "law.go:101", after := #[{ on := 2, ground := Ground.guard }], guard := some (2, false) }) (v := ?_) rfl (by kernel_rfl) (by kernel_rfl) (by kernel_rfl) (fun _ _ _ h => h) (Or.inl ⟨by rfl, ?_⟩) E0.out ?_
          rotate_left
          · (intro w1 hS; go_simp; try with_reducible rfl)
          simp only [Act.put, List.setIfInBounds_toArray, List.set_cons_zero, List.set_cons_succ]
          refine wpAnyH_take (i := 4) (oi := { dst := some 89, op := Op.move (Operand.tmp 14), type := 3, pos := "law.go:101", after := #[{ on := 2, ground := Ground.guard }], guard := some (2, false) }) (v := ?_) rfl (by kernel_rfl) (by kernel_rfl) (by kernel_rfl) (fun _ _ _ h => h) (Or.inl ⟨by rfl, ?_⟩) E0.out ?_
          rotate_left
          · (intro w1 hS; go_simp; try with_reducible rfl)
          simp only [Act.put, List.setIfInBounds_toArray, List.set_cons_zero, List.set_cons_succ]
          refine wpAnyH_take (i := 5) (oi := { dst := some 90, op := Op.binOp BinOp.neq 3 (Operand.tmp 88) (Operand.tmp 89) 3, type := 4, pos := "law.go:101", after := #[{ on := 3, ground := Ground.data }, { on := 4, ground := Ground.data }, { on := 2, ground := Ground.guard }], guard := some (2, false) }) (v := ?_) rfl (by kernel_rfl) (by kernel_rfl) (by kernel_rfl) (fun _ _ _ h => h) (Or.inl ⟨by rfl, ?_⟩) E0.out ?_
          rotate_left
          · (intro w1 hS; go_simp; try with_reducible rfl)
          simp only [Act.put, List.setIfInBounds_toArray, List.set_cons_zero, List.set_cons_succ]
          refine wpAnyH_take (i := 6) (oi := { dst := some 91, op := Op.pick (Operand.tmp 87) (Operand.const (Value.bool true)) (Operand.tmp 90), type := 4, pos := "law.go:101", after := #[{ on := 2, ground := Ground.data }, { on := 5, ground := Ground.data }], guard := none }) (v := ?_) rfl (by kernel_rfl) (by kernel_rfl) (by kernel_rfl) (fun _ _ _ h => h) (Or.inl ⟨by rfl, ?_⟩) E0.out ?_
          rotate_left
          · (intro w1 hS; go_simp; try with_reducible rfl)
          simp only [Act.put, List.setIfInBounds_toArray, List.set_cons_zero, List.set_cons_succ]
          refine wpAnyH_take (i := 7) (oi := { dst := some 92, op := Op.move (Operand.tmp 91), type := 4, pos := "law.go:101", after := #[{ on := 6, ground := Ground.data }, { on := 2, ground := Ground.chain }], guard := none }) (v := ?_) rfl (by kernel_rfl) (by kernel_rfl) (by kernel_rfl) (fun _ _ _ h => h) (Or.inl ⟨by rfl, ?_⟩) E0.out ?_
          rotate_left
          · (intro w1 hS; go_simp; try with_reducible rfl)
          simp only [Act.put, List.setIfInBounds_toArray, List.set_cons_zero, List.set_cons_succ]
          refine wpAnyH_take (i := 8) (oi := { dst := some 93, op := Op.move (Operand.tmp 10), type := 23, pos := "law.go:101", after := #[{ on := 7, ground := Ground.guard }], guard := some (7, false) }) (v := ?_) rfl (by kernel_rfl) (by kernel_rfl) (by kernel_rfl) (fun _ _ _ h => h) (Or.inl ⟨by rfl, ?_⟩) E0.out ?_
          rotate_left
          · (intro w1 hS; go_simp; try with_reducible rfl)
          simp only [Act.put, List.setIfInBounds_toArray, List.set_cons_zero, List.set_cons_succ]
          refine wpAnyH_take (i := 9) (oi := { dst := some 94, op := Op.move (Operand.tmp 0), type := 23, pos := "law.go:101", after := #[{ on := 7, ground := Ground.guard }], guard := some (7, false) }) (v := ?_) rfl (by kernel_rfl) (by kernel_rfl) (by kernel_rfl) (fun _ _ _ h => h) (Or.inl ⟨by rfl, ?_⟩) E0.out ?_
          rotate_left
          · (intro w1 hS; go_simp; try with_reducible rfl)
          simp only [Act.put, List.setIfInBounds_toArray, List.set_cons_zero, List.set_cons_succ]
          refine wpAnyH_take (i := 10) (oi := { dst := some 95, op := Op.binOp BinOp.neq 23 (Operand.tmp 93) (Operand.tmp 94) 23, type := 4, pos := "law.go:101", after := #[{ on := 8, ground := Ground.data }, { on := 9, ground := Ground.data }, { on := 7, ground := Ground.guard }], guard := some (7, false) }) (v := ?_) rfl (by kernel_rfl) (by kernel_rfl) (by kernel_rfl) (fun _ _ _ h => h) (Or.inl ⟨by rfl, ?_⟩) E0.out ?_
          rotate_left
          · (intro w1 hS; go_simp; try with_reducible rfl)
          simp only [Act.put, List.setIfInBounds_toArray, List.set_cons_zero, List.set_cons_succ]
          refine wpAnyH_take (i := 11) (oi := { dst := some 96, op := Op.pick (Operand.tmp 92) (Operand.const (Value.bool true)) (Operand.tmp 95), type := 4, pos := "law.go:101", after := #[{ on := 7, ground := Ground.data }, { on := 10, ground := Ground.data }], guard := none }) (v := ?_) rfl (by kernel_rfl) (by kernel_rfl) (by kernel_rfl) (fun _ _ _ h => h) (Or.inl ⟨by rfl, ?_⟩) E0.out ?_
          rotate_left
          · (intro w1 hS; go_simp; try with_reducible rfl)
          simp only [Act.put, List.setIfInBounds_toArray, List.set_cons_zero, List.set_cons_succ]
          refine wpAnyH_take (i := 12) (oi := { dst := some 97, op := Op.move (Operand.tmp 96), type := 4, pos := "law.go:101", after := #[{ on := 11, ground := Ground.data }, { on := 7, ground := Ground.chain }], guard := none }) (v := ?_) rfl (by kernel_rfl) (by kernel_rfl) (by kernel_rfl) (fun _ _ _ h => h) (Or.inl ⟨by rfl, ?_⟩) E0.out ?_
          rotate_left
          · (intro w1 hS; go_simp; try with_reducible rfl)
          simp only [Act.put, List.setIfInBounds_toArray, List.set_cons_zero, List.set_cons_succ]
          refine wpAnyH_take (i := 13) (oi := { dst := some 98, op := Op.move (Operand.tmp 13), type := 22, pos := "law.go:101", after := #[{ on := 12, ground := Ground.guard }], guard := some (12, false) }) (v := ?_) rfl (by kernel_rfl) (by kernel_rfl) (by kernel_rfl) (fun _ _ _ h => h) (Or.inl ⟨by rfl, ?_⟩) E0.out ?_
          rotate_left
          · (intro w1 hS; go_simp; try with_reducible rfl)
          simp only [Act.put, List.setIfInBounds_toArray, List.set_cons_zero, List.set_cons_succ]
          refine wpAnyH_take (i := 14) (oi := { dst := some 99, op := Op.call { callee := Callee.builtin Builtin.len, args := #[Operand.tmp 98], argTypes := #[22] }, type := 3, pos := "law.go:101", after := #[{ on := 13, ground := Ground.data }, { on := 12, ground := Ground.guard }], guard := some (12, false) }) (v := ?_) rfl (by kernel_rfl) (by kernel_rfl) (by kernel_rfl) (fun _ _ _ h => h) (Or.inl ⟨by rfl, ?_⟩) E0.out ?_
          rotate_left
          · (intro w1 hS; go_simp; try with_reducible rfl)
          simp only [Act.put, List.setIfInBounds_toArray, List.set_cons_zero, List.set_cons_succ]
          refine wpAnyH_take (i := 15) (oi := { dst := some 100, op := Op.move (Operand.tmp 14), type := 3, pos := "law.go:101", after := #[{ on := 12, ground := Ground.guard }], guard := some (12, false) }) (v := ?_) rfl (by kernel_rfl) (by kernel_rfl) (by kernel_rfl) (fun _ _ _ h => h) (Or.inl ⟨by rfl, ?_⟩) E0.out ?_
          rotate_left
          · (intro w1 hS; go_simp; try with_reducible rfl)
          simp only [Act.put, List.setIfInBounds_toArray, List.set_cons_zero, List.set_cons_succ]
          refine wpAnyH_take (i := 16) (oi := { dst := some 101, op := Op.binOp BinOp.neq 3 (Operand.tmp 99) (Operand.tmp 100) 3, type := 4, pos := "law.go:101", after := #[{ on := 14, ground := Ground.data }, { on := 15, ground := Ground.data }, { on := 12, ground := Ground.guard }], guard := some (12, false) }) (v := ?_) rfl (by kernel_rfl) (by kernel_rfl) (by kernel_rfl) (fun _ _ _ h => h) (Or.inl ⟨by rfl, ?_⟩) E0.out ?_
          rotate_left
          · (intro w1 hS; go_simp; try with_reducible rfl)
          simp only [Act.put, List.setIfInBounds_toArray, List.set_cons_zero, List.set_cons_succ]
          refine wpAnyH_take (i := 17) (oi := { dst := some 102, op := Op.pick (Operand.tmp 97) (Operand.const (Value.bool true)) (Operand.tmp 101), type := 4, pos := "law.go:101", after := #[{ on := 12, ground := Ground.data }, { on := 16, ground := Ground.data }], guard := none }) (v := ?_) rfl (by kernel_rfl) (by kernel_rfl) (by kernel_rfl) (fun _ _ _ h => h) (Or.inl ⟨by rfl, ?_⟩) E0.out ?_
          rotate_left
          · (intro w1 hS; go_simp; try with_reducible rfl)
          simp only [Act.put, List.setIfInBounds_toArray, List.set_cons_zero, List.set_cons_succ]
          refine wpAnyH_take (i := 18) (oi := { dst := some 103, op := Op.move (Operand.tmp 102), type := 4, pos := "law.go:101", after := #[{ on := 17, ground := Ground.data }, { on := 12, ground := Ground.chain }], guard := none }) (v := ?_) rfl (by kernel_rfl) (by kernel_rfl) (by kernel_rfl) (fun _ _ _ h => h) (Or.inl ⟨by rfl, ?_⟩) E0.out ?_
          rotate_left
          · (intro w1 hS; go_simp; try with_reducible rfl)
          simp only [Act.put, List.setIfInBounds_toArray, List.set_cons_zero, List.set_cons_succ]
          refine wpAnyH_take (i := 19) (oi := { dst := some 104, op := Op.move (Operand.tmp 13), type := 22, pos := "law.go:101", after := #[{ on := 18, ground := Ground.guard }], guard := some (18, false) }) (v := ?_) rfl (by kernel_rfl) (by kernel_rfl) (by kernel_rfl) (fun _ _ _ h => h) (Or.inl ⟨by rfl, ?_⟩) E0.out ?_
          rotate_left
          · (intro w1 hS; go_simp; try with_reducible rfl)
          simp only [Act.put, List.setIfInBounds_toArray, List.set_cons_zero, List.set_cons_succ]
          refine wpAnyH_take (i := 20) (oi := { dst := some 105, op := Op.move (Operand.tmp 14), type := 3, pos := "law.go:101", after := #[{ on := 18, ground := Ground.guard }], guard := some (18, false) }) (v := ?_) rfl (by kernel_rfl) (by kernel_rfl) (by kernel_rfl) (fun _ _ _ h => h) (Or.inl ⟨by rfl, ?_⟩) E0.out ?_
          rotate_left
          · (intro w1 hS; go_simp; try with_reducible rfl)
          simp only [Act.put, List.setIfInBounds_toArray, List.set_cons_zero, List.set_cons_succ]
          refine wpAnyH_take (i := 21) (oi := { dst := some 106, op := Op.binOp BinOp.sub 3 (Operand.tmp 105) (Operand.const (Value.int IntKind.i64 2)) 3, type := 3, pos := "law.go:101", after := #[{ on := 20, ground := Ground.data }, { on := 18, ground := Ground.guard }], guard := some (18, false) }) (v := ?_) rfl (by kernel_rfl) (by kernel_rfl) (by kernel_rfl) (fun _ _ _ h => h) (Or.inl ⟨by rfl, ?_⟩) E0.out ?_
          rotate_left
          · (intro w1 hS; go_simp; try with_reducible rfl)
          simp only [Act.put, List.setIfInBounds_toArray, List.set_cons_zero, List.set_cons_succ]
          refine wpAnyH_take (i := 22) (oi := { dst := some 107, op := Op.slice 22 (Operand.tmp 104) none (some (Operand.tmp 106)) none, type := 22, pos := "law.go:101", after := #[{ on := 19, ground := Ground.data }, { on := 21, ground := Ground.data }, { on := 18, ground := Ground.guard }], guard := some (18, false) }) (v := ?_) rfl (by kernel_rfl) (by kernel_rfl) (by kernel_rfl) (fun _ _ _ h => h) (Or.inl ⟨by rfl, ?_⟩) E0.out ?_
          rotate_left
          · (intro w1 hS; have hW := hS; have q : (12 : Int) ≤ (c7 : Int) := (by omega); clear hW hS; go_simp; try with_reducible rfl)
          simp only [Act.put, List.setIfInBounds_toArray, List.set_cons_zero, List.set_cons_succ]
          refine wpAnyH_take (i := 23) (oi := { dst := some 108, op := Op.convert 22 9 (Operand.tmp 107), type := 9, pos := "law.go:101", after := #[{ on := 22, ground := Ground.data }, { on := 18, ground := Ground.guard }], guard := some (18, false) }) (v := ?_) rfl (by kernel_rfl) (by kernel_rfl) (by kernel_rfl) (fun _ _ _ h => h) (Or.inl ⟨by rfl, ?_⟩) E0.out ?_
          rotate_left
          · (intro w1 hS; have hW := hS; have q := HCX.out w1 hW; clear hW hS; go_simp; try with_reducible rfl)
          simp only [Act.put, List.setIfInBounds_toArray, List.set_cons_zero, List.set_cons_succ]
          refine wpAnyH_take (i := 24) (oi := { dst := some 109, op := Op.move (Operand.tmp 7), type := 22, pos := "law.go:101", after := #[{ on := 18, ground := Ground.guard }], guard := some (18, false) }) (v := ?_) rfl (by kernel_rfl) (by kernel_rfl) (by kernel_rfl) (fun _ _ _ h => h) (Or.inl ⟨by rfl, ?_⟩) E0.out ?_
          rotate_left
          · (intro w1 hS; go_simp; try with_reducible rfl)
          simp only [Act.put, List.setIfInBounds_toArray, List.set_cons_zero, List.set_cons_succ]
          refine wpAnyH_take (i := 25) (oi := { dst := some 110, op := Op.move (Operand.tmp 14), type := 3, pos := "law.go:101", after := #[{ on := 18, ground := Ground.guard }], guard := some (18, false) }) (v := ?_) rfl (by kernel_rfl) (by kernel_rfl) (by kernel_rfl) (fun _ _ _ h => h) (Or.inl ⟨by rfl, ?_⟩) E0.out ?_
          rotate_left
          · (intro w1 hS; go_simp; try with_reducible rfl)
          simp only [Act.put, List.setIfInBounds_toArray, List.set_cons_zero, List.set_cons_succ]
          refine wpAnyH_take (i := 26) (oi := { dst := some 111, op := Op.binOp BinOp.sub 3 (Operand.tmp 110) (Operand.const (Value.int IntKind.i64 2)) 3, type := 3, pos := "law.go:101", after := #[{ on := 25, ground := Ground.data }, { on := 18, ground := Ground.guard }], guard := some (18, false) }) (v := ?_) rfl (by kernel_rfl) (by kernel_rfl) (by kernel_rfl) (fun _ _ _ h => h) (Or.inl ⟨by rfl, ?_⟩) E0.out ?_
          rotate_left
          · (intro w1 hS; go_simp; try with_reducible rfl)
          simp only [Act.put, List.setIfInBounds_toArray, List.set_cons_zero, List.set_cons_succ]
          refine wpAnyH_take (i := 27) (oi := { dst := some 112, op := Op.slice 22 (Operand.tmp 109) none (some (Operand.tmp 111)) none, type := 22, pos := "law.go:101", after := #[{ on := 24, ground := Ground.data }, { on := 26, ground := Ground.data }, { on := 18, ground := Ground.guard }], guard := some (18, false) }) (v := ?_) rfl (by kernel_rfl) (by kernel_rfl) (by kernel_rfl) (fun _ _ _ h => h) (Or.inl ⟨by rfl, ?_⟩) E0.out ?_
          rotate_left
          · (intro w1 hS; have hW := hS; have q : (12 : Int) ≤ (c5 : Int) := (by omega); clear hW hS; go_simp; try with_reducible rfl)
          simp only [Act.put, List.setIfInBounds_toArray, List.set_cons_zero, List.set_cons_succ]
          refine wpAnyH_take (i := 28) (oi := { dst := some 113, op := Op.convert 22 9 (Operand.tmp 112), type := 9, pos := "law.go:101", after := #[{ on := 27, ground := Ground.data }, { on := 18, ground := Ground.guard }], guard := some (18, false) }) (v := ?_) rfl (by kernel_rfl) (by kernel_rfl) (by kernel_rfl) (fun _ _ _ h => h) (Or.inl ⟨by rfl, ?_⟩) E0.out ?_
          rotate_left
          · (intro w1 hS; have hW := hS; have q := HCZ.out w1 hW; clear hW hS; go_simp; try with_reducible rfl)
          simp only [Act.put, List.setIfInBounds_toArray, List.set_cons_zero, List.set_cons_succ]
          refine wpAnyH_take (i := 29) (oi := { dst := some 114, op := Op.binOp BinOp.neq 9 (Operand.tmp 108) (Operand.tmp 113) 9, type := 4, pos := "law.go:101", after := #[{ on := 23, ground := Ground.data }, { on := 28, ground := Ground.data }, { on := 18, ground := Ground.guard }], guard := some (18, false) }) (v := ?_) rfl (by kernel_rfl) (by kernel_rfl) (by kernel_rfl) (fun _ _ _ h => h) (Or.inl ⟨by rfl, ?_⟩) E0.out ?_
          rotate_left
          · (intro w1 hS; go_simp; try with_reducible rfl)
          simp only [Act.put, List.setIfInBounds_toArray, List.set_cons_zero, List.set_cons_succ]
          refine wpAnyH_take (i := 30) (oi := { dst := some 115, op := Op.pick (Operand.tmp 103) (Operand.const (Value.bool true)) (Operand.tmp 114), type := 4, pos := "law.go:101", after := #[{ on := 18, ground := Ground.data }, { on := 29, ground := Ground.data }], guard := none }) (v := ?_) rfl (by kernel_rfl) (by kernel_rfl) (by kernel_rfl) (fun _ _ _ h => h) (Or.inl ⟨by rfl, ?_⟩) E0.out ?_
          rotate_left
          · (intro w1 hS; go_simp; try with_reducible rfl)
          simp only [Act.put, List.setIfInBounds_toArray, List.set_cons_zero, List.set_cons_succ]
          refine wpAnyH_done (by kernel_rfl) ?_ _
          go_wp2_with fail
          refine (NX.out _ E0.out).mono ?_; rintro e w' ⟨rfl, rfl⟩
          go_wp2_with fail
          refine (awake_any _).mono ?_
          rintro e w9 ⟨rfl, hb⟩
          have B9 := Lib.hid ((B6.out.trans (E0.out.mono B6.out.size)).trans (hb.mono (B6.out.trans (E0.out.mono B6.out.size)).size))
          clear hb E0 B6
          go_wp2
          go_ret
          exact ⟨rfl, B9.out⟩
      · have hne := Lib.hid (HN.out.2 hip)
        rw [hne.out] at NN
        have g1 : ((k : Int) != 2048) = true := by simp; omega
        have g2 : ((k : Int) != 34525) = true := by simp; omega
        clear hip
        go_wp2_with fail
        refine NN.out.mono ?_; rintro e w' ⟨rfl, rfl⟩
        clear NN HN
        go_wp2_with fail
        refine (with_noB _ _ 34525 _ R5.out HZ.out (by rw [hne.out]; decide)).mono ?_
        rintro e w6 ⟨rfl, hb⟩
        have B6 := Lib.hid (B5.out.trans (hb.mono B5.out.size))
        clear hb R5 B5 HZ hne
        go_wp2_with fail
        refine (awake_any _).mono ?_
        rintro e w7 ⟨rfl, hb⟩
        have B7 := Lib.hid (B6.out.trans (hb.mono B6.out.size))
        clear hb B6
        go_wp2
        go_ret
        exact ⟨rfl, B7.out⟩

set_option maxRecDepth 100000 in
set_option maxHeartbeats 4000000 in
theorem kinds_tag4 (k : Nat) (w : World) (hk : k < 65536) :
    Calls Try.prog 6 #[.int .u16 (k : Int), .bool true, .bool false] w fun e w' => e = .returned (.bool true) ∧ Below w.heap.size w w' := by
  have hi1 : IntKind.u8.wrap ((k : Int) / 256) = ((k / 256 : Nat) : Int) := by rw [IntKind.wrap_u8]; omega
  have lo1 := lo_i64 k
  have HK := Lib.hid hk
  obtain ⟨i0, hi, hz0, hz1, hz2⟩ := info_parts Try.info5
  have hbase : w.heap.size ≤ w.heap.size := Nat.le_refl _
  go_enter Try.func6, Try.ntmps6
  go_wp2_with (at_make; refine wpList_make_full _ rfl _ _ 22 rfl w.heap.size 5 i0 (.int .u8 0) 1 Try.underlying22 hi hz0 hz1 .i64 .i64 _ _ 12 rfl rfl ?c1 ?c2 ?c3 ?c4 hbase ?_)
  case c1 => omega
  case c2 => omega
  case c3 => rw [hz2]; omega
  case c4 => unfold maxLen; omega
  intro w1 o1 g1
  have B1 := Lib.hid ((Below.refl w.heap.size w).grown g1 (Nat.le_refl _) (fun k hk => by cases hk))
  rw [toList_madeCells_one] at o1
  have O1 := Lib.hid (show w1.ownsRow w.heap.size 5 1 (.slice (some ⟨w.heap.size, 0, none⟩) 12 12) 12 (nus .u8 (pref12 0)) from o1)
  clear o1 g1 hi hz0 hz1 hz2 hbase
  go_wp2
  go_loopw [8] (fun i wr => ∃ j : Nat, j ≤ 12 ∧ i = .int .i64 j ∧ wr.ownsRow w.heap.size 5 1 (.slice (some ⟨w.heap.size, 0, none⟩) 12 12) 12 (nus .u8 (pref12 j)) ∧ Below w.heap.size w wr) (fun i _ => 12 - (intOf i).toNat)
  case atStart => exact ⟨0, by omega, rfl, O1.out, B1.out⟩
  case round =>
    obtain ⟨j, hj, rfl, hown, hbl⟩ := hrel
    clear O1 B1
    by_cases h1 : j < 12
    · have hcell := hown.cellAt j (by omega)
      rw [nus_get _ _ _ (by rw [pref12_length j hj]; omega)] at hcell
      have hfz := hown.frozenAt j
      have hst := hown.stored j (.int .u8 ((7 * j + 3 : Nat) : Int))
      rw [nus_set, pref12_step j h1] at hst
      have hw := Lib.hid (hbl.grown hst.2 hbl.size (fun k e => by cases e; exact Nat.le_refl _))
      have HS := Lib.hid hst.1
      have he : IntKind.u8.wrap (7 * (j : Int) + 3) = ((7 * j + 3 : Nat) : Int) := by rw [IntKind.wrap_u8]; omega
      obtain ⟨x, hx⟩ : ∃ x, x = (pref12 j).getD j 0 := ⟨_, rfl⟩
      rw [← hx] at hcell
      clear hown hbl hst hx hi1 lo1
      go_wp2
      go_roundw
      case rel => exact ⟨j + 1, by omega, by go_num, HS.out, hw.out⟩
      case measure => simp [intOf]; omega
    · obtain rfl : j = 12 := by omega
      rw [pref12_all] at hown
      have O2 := Lib.hid hown
      have B2 := Lib.hid hbl
      clear hown hbl h1
      have b3 := (Below.refl wr.heap.size wr).alloc (Nat.le_refl _) (.cells (nus .u8 [129, 0, 1, 2]).toArray 5)
      have r3 := rd_lit wr .u8 5 [129, 0, 1, 2] 4 (0, 0) rfl (by simp [maxLen])
      have O3a := Lib.hid (row_under O2.out b3)
      have R3a := Lib.hid r3
      have B3a := Lib.hid (B2.out.trans (b3.mono B2.out.size))
      clear b3 r3 O2 B2
      go_wp2_with (at_builtin; refine wpList_app rfl (.tmp 31) (.tmp 32) rfl w.heap.size _ 12 (P12) rfl O3a.out (some _) 4 4 [129, 0, 1, 2] rfl R3a.out ?c31 ?c32 ?c33 ?c34)
      case c31 => intro e; cases e
      case c32 => omega
      case c33 => exact B3a.out.size
      intro v3 w3 o3 g3
      have O3 := Lib.hid (show w3.ownsRow w.heap.size 5 1 v3 16 (nus .u8 (P12 ++ [129, 0, 1, 2])) from o3)
      have B3 := Lib.hid (B3a.out.grown g3 B3a.out.size (fun k e => (O3a.out.lt k e).1))
      clear o3 g3 O3a R3a B3a
      have ec : (#[.int .u8 ((k : Int) / 256), .int .u8 ((k : Int) % 256), .int .u8 9, .int .u8 9, .int .u8 9, .int .u8 9, .int .u8 9] : Array Value) = (nus .u8 [k / 256, k % 256, 9, 9, 9, 9, 9]).toArray := by simp [nus]
      have b5 := (Below.refl w3.heap.size w3).alloc (Nat.le_refl _) (.cells (nus .u8 [k / 256, k % 256, 9, 9, 9, 9, 9]).toArray 5)
      have r5 := rd_lit w3 .u8 5 [k / 256, k % 256, 9, 9, 9, 9, 9] 7 (0, 0) rfl (by simp [maxLen])
      have O5a := Lib.hid (row_under O3.out b5)
      have R5a := Lib.hid r5
      have B5a := Lib.hid (B3.out.trans (b5.mono B3.out.size))
      clear b5 r5 O3 B3
      go_wp2_with (at_builtin; refine wpList_app rfl (.tmp 34) (.tmp 40) rfl w.heap.size _ 16 (P12 ++ [129, 0, 1, 2]) rfl O5a.out (some _) 7 7 [k / 256, k % 256, 9, 9, 9, 9, 9] rfl R5a.out ?c51 ?c52 ?c53 ?c54)
      case c51 => intro e; cases e
      case c52 => omega
      case c53 => exact B5a.out.size
      intro v5 w5 o5 g5
      have O5 := Lib.hid (show w5.ownsRow w.heap.size 5 1 v5 23 (nus .u8 (P12 ++ [129, 0, 1, 2, k / 256, k % 256, 9, 9, 9, 9, 9])) from o5)
      have B5 := Lib.hid (B5a.out.grown g5 B5a.out.size (fun k e => (O5a.out.lt k e).1))
      clear o5 g5 O5a R5a B5a
      clear ec hi1 lo1
      have h5 := O5.out
      obtain ⟨-, ⟨rfl, h0⟩ | ⟨g, c5, cur, rfl, -, -, hc5, hm5, -⟩⟩ := h5
      · cases h0
      unfold maxLen at hm5
      have R5 := Lib.hid (Rd.own O5.out)
      have HL := Lib.hid (show (P12 ++ [129, 0, 1, 2, k / 256, k % 256, 9, 9, 9, 9, 9]).length = 23 from rfl)
      have HZ : Hid (∀ c ∈ P12 ++ [129, 0, 1, 2, k / 256, k % 256, 9, 9, 9, 9, 9], c < 256) := by
        show ∀ c ∈ _, c < 256
        have := HK.out
        intro c hc
        rcases List.mem_append.1 hc with hc | hc
        · exact p12_lt c hc
        · simp only [List.mem_cons, List.not_mem_nil, or_false] at hc
          omega
      have HN := Lib.hid (kinds_tag_net k)
      have NN := Lib.hid (net_any _ _ _ R5.out HZ.out)
      clear O5
      by_cases hip : k = 2048 ∨ k = 34525
      · have hne := Lib.hid (HN.out.1 hip)
        rw [hne.out] at NN
        go_wp2_with fail
        refine NN.out.mono ?_; rintro e w' ⟨rfl, rfl⟩
        clear NN HN
        go_wp2_with fail
        refine (with_yes _ _ 2048 16 _ R5.out HZ.out (by decide) (by rw [hne.out]) (by rw [hne.out]) (by rw [HL.out]; decide) (by decide)).mono ?_
        rintro e W ⟨x, rfl, ho, hb⟩
        have B6 := Lib.hid (B5.out.trans (hb.mono B5.out.size))
        have RZ := Lib.hid (R5.out.below hb)
        have RX0 := Rd.own ho
        obtain ⟨-, ⟨rfl, h0⟩ | ⟨g7, c7, cur7, rfl, -, -, hc7, hm7, -⟩⟩ := ho
        · cases h0
        unfold maxLen at hm7
        have htk : (P12 ++ [129, 0, 1, 2, k / 256, k % 256, 9, 9, 9, 9, 9]).take 16 ++ bg 2 2048 = P12 ++ [129, 0, 1, 2] ++ [8, 0] := by simp [P12, bg]
        rw [htk] at RX0
        have RX := Lib.hid RX0
        clear hb RX0 htk R5 B5 HZ hne
        have hcx : ∀ W', Below W.heap.size W W' → (convert 22 9 (.slice (some ⟨g7, 0, none⟩) 16 c7)).run Try.prog W' = .ok (.string (str (P12 ++ [129, 0, 1, 2]))) W' := fun W' hW' =>
          conv_rd W' 22 9 5 Try.underlying22 Try.underlying5 Try.underlying9 _ _ ((RX.out.front 16 (by decide)).below hW')
        have hcz : ∀ W', Below W.heap.size W W' → (convert 22 9 (.slice (some ⟨g, 0, none⟩) 16 c5)).run Try.prog W' = .ok (.string (str (P12 ++ [129, 0, 1, 2]))) W' := fun W' hW' =>
          conv_rd W' 22 9 5 Try.underlying22 Try.underlying5 Try.underlying9 _ _ ((RZ.out.front 16 (by rw [HL.out]; decide)).below hW')
        obtain ⟨T, hT⟩ : ∃ T, T = str (P12 ++ [129, 0, 1, 2]) := ⟨_, rfl⟩
        rw [← hT] at hcx hcz
        have HCX := Lib.hid hcx
        have HCZ := Lib.hid hcz
        have NX := Lib.hid (fun W' (h : Below W.heap.size W W') => net_any _ _ W' (RX.out.below h) (by decide))
        rw [show net (P12 ++ [129, 0, 1, 2] ++ [8, 0]) = (18, 2048, 0) from by decide] at NX
        clear hT hcx hcz RX RZ HL
        have hws : IntKind.i64.wrap (16 : Int) = 16 := by decide
        rcases hip with rfl | rfl
        · go_wp2_with fail
          refine wp_region_held (S := (fun w' : World => Below W.heap.size W w')) (by kernel_rfl) ?_
          change wpAnyH _ _ _ _ _ _ _ _ W.drew
          have hE0 : Below W.heap.size W W.drew := (Below.refl _ _).drew
          generalize W.drew = Y0 at hE0 ⊢
          have E0 := Lib.hid hE0
          clear hE0
          refine wpAnyH_take (i := 0) (oi := { dst := some 85, op := Op.move (Operand.tmp 11), type := 3, pos := "law.go:101", after := #[], guard := none }) (v := ?_) rfl (by kernel_rfl) (by kernel_rfl) (by kernel_rfl) (fun _ _ _ h => h) (Or.inl ⟨by rfl, ?_⟩) E0.out ?_
          rotate_left
          · (intro w1 hS; go_simp; try with_reducible rfl)
          simp only [Act.put, List.setIfInBounds_toArray, List.set_cons_zero, List.set_cons_succ]
          refine wpAnyH_take (i := 1) (oi := { dst := some 86, op := Op.binOp BinOp.neq 3 (Operand.tmp 85) (Operand.const (Value.int IntKind.i64 0)) 3, type := 4, pos := "law.go:101", after := #[{ on := 0, ground := Ground.data }], guard := none }) (v := ?_) rfl (by kernel_rfl) (by kernel_rfl) (by kernel_rfl) (fun _ _ _ h => h) (Or.inl ⟨by rfl, ?_⟩) E0.out ?_
          rotate_left
          · (intro w1 hS; go_simp; try with_reducible rfl)
          simp only [Act.put, List.setIfInBounds_toArray, List.set_cons_zero, List.set_cons_succ]
          refine wpAnyH_take (i := 2) (oi := { dst := some 87, op := Op.move (Operand.tmp 86), type := 4, pos := "law.go:101", after := #[{ on := 1, ground := Ground.data }], guard := none }) (v := ?_) rfl (by kernel_rfl) (by kernel_rfl) (by kernel_rfl) (fun _ _ _ h => h) (Or.inl ⟨by rfl, ?_⟩) E0.out ?_
          rotate_left
          · (intro w1 hS; go_simp; try with_reducible rfl)
          simp only [Act.put, List.setIfInBounds_toArray, List.set_cons_zero, List.set_cons_succ]
          refine wpAnyH_take (i := 3) (oi := { dst := some 88, op := Op.move (Operand.tmp 9), type := 3, pos := "law.go:101", after := #[{ on := 2, ground := Ground.guard }], guard := some (2, false) }) (v := ?_) rfl (by kernel_rfl) (by kernel_rfl) (by kernel_rfl) (fun _ _ _ h => h) (Or.inl ⟨by rfl, ?_⟩) E0.out ?_
          rotate_left
          · (intro w1 hS; go_simp; try with_reducible rfl)
          simp only [Act.put, List.setIfInBounds_toArray, List.set_cons_zero, List.set_cons_succ]
          refine wpAnyH_take (i := 4) (oi := { dst := some 89, op := Op.move (Operand.tmp 14), type := 3, pos := "law.go:101", after := #[{ on := 2, ground := Ground.guard }], guard := some (2, false) }) (v := ?_) rfl (by kernel_rfl) (by kernel_rfl) (by kernel_rfl) (fun _ _ _ h => h) (Or.inl ⟨by rfl, ?_⟩) E0.out ?_
          rotate_left
          · (intro w1 hS; go_simp; try with_reducible rfl)
          simp only [Act.put, List.setIfInBounds_toArray, List.set_cons_zero, List.set_cons_succ]
          refine wpAnyH_take (i := 5) (oi := { dst := some 90, op := Op.binOp BinOp.neq 3 (Operand.tmp 88) (Operand.tmp 89) 3, type := 4, pos := "law.go:101", after := #[{ on := 3, ground := Ground.data }, { on := 4, ground := Ground.data }, { on := 2, ground := Ground.guard }], guard := some (2, false) }) (v := ?_) rfl (by kernel_rfl) (by kernel_rfl) (by kernel_rfl) (fun _ _ _ h => h) (Or.inl ⟨by rfl, ?_⟩) E0.out ?_
          rotate_left
          · (intro w1 hS; go_simp; try with_reducible rfl)
          simp only [Act.put, List.setIfInBounds_toArray, List.set_cons_zero, List.set_cons_succ]
          refine wpAnyH_take (i := 6) (oi := { dst := some 91, op := Op.pick (Operand.tmp 87) (Operand.const (Value.bool true)) (Operand.tmp 90), type := 4, pos := "law.go:101", after := #[{ on := 2, ground := Ground.data }, { on := 5, ground := Ground.data }], guard := none }) (v := ?_) rfl (by kernel_rfl) (by kernel_rfl) (by kernel_rfl) (fun _ _ _ h => h) (Or.inl ⟨by rfl, ?_⟩) E0.out ?_
          rotate_left
          · (intro w1 hS; go_simp; try with_reducible rfl)
          simp only [Act.put, List.setIfInBounds_toArray, List.set_cons_zero, List.set_cons_succ]
          refine wpAnyH_take (i := 7) (oi := { dst := some 92, op := Op.move (Operand.tmp 91), type := 4, pos := "law.go:101", after := #[{ on := 6, ground := Ground.data }, { on := 2, ground := Ground.chain }], guard := none }) (v := ?_) rfl (by kernel_rfl) (by kernel_rfl) (by kernel_rfl) (fun _ _ _ h => h) (Or.inl ⟨by rfl, ?_⟩) E0.out ?_
          rotate_left
          · (intro w1 hS; go_simp; try with_reducible rfl)
          simp only [Act.put, List.setIfInBounds_toArray, List.set_cons_zero, List.set_cons_succ]
          refine wpAnyH_take (i := 8) (oi := { dst := some 93, op := Op.move (Operand.tmp 10), type := 23, pos := "law.go:101", after := #[{ on := 7, ground := Ground.guard }], guard := some (7, false) }) (v := ?_) rfl (by kernel_rfl) (by kernel_rfl) (by kernel_rfl) (fun _ _ _ h => h) (Or.inl ⟨by rfl, ?_⟩) E0.out ?_
          rotate_left
          · (intro w1 hS; go_simp; try with_reducible rfl)
          simp only [Act.put, List.setIfInBounds_toArray, List.set_cons_zero, List.set_cons_succ]
          refine wpAnyH_take (i := 9) (oi := { dst := some 94, op := Op.move (Operand.tmp 0), type := 23, pos := "law.go:101", after := #[{ on := 7, ground := Ground.guard }], guard := some (7, false) }) (v := ?_) rfl (by kernel_rfl) (by kernel_rfl) (by kernel_rfl) (fun _ _ _ h => h) (Or.inl ⟨by rfl, ?_⟩) E0.out ?_
          rotate_left
          · (intro w1 hS; go_simp; try with_reducible rfl)
          simp only [Act.put, List.setIfInBounds_toArray, List.set_cons_zero, List.set_cons_succ]
          refine wpAnyH_take (i := 10) (oi := { dst := some 95, op := Op.binOp BinOp.neq 23 (Operand.tmp 93) (Operand.tmp 94) 23, type := 4, pos := "law.go:101", after := #[{ on := 8, ground := Ground.data }, { on := 9, ground := Ground.data }, { on := 7, ground := Ground.guard }], guard := some (7, false) }) (v := ?_) rfl (by kernel_rfl) (by kernel_rfl) (by kernel_rfl) (fun _ _ _ h => h) (Or.inl ⟨by rfl, ?_⟩) E0.out ?_
          rotate_left
          · (intro w1 hS; go_simp; try with_reducible rfl)
          simp only [Act.put, List.setIfInBounds_toArray, List.set_cons_zero, List.set_cons_succ]
          refine wpAnyH_take (i := 11) (oi := { dst := some 96, op := Op.pick (Operand.tmp 92) (Operand.const (Value.bool true)) (Operand.tmp 95), type := 4, pos := "law.go:101", after := #[{ on := 7, ground := Ground.data }, { on := 10, ground := Ground.data }], guard := none }) (v := ?_) rfl (by kernel_rfl) (by kernel_rfl) (by kernel_rfl) (fun _ _ _ h => h) (Or.inl ⟨by rfl, ?_⟩) E0.out ?_
          rotate_left
          · (intro w1 hS; go_simp; try with_reducible rfl)
          simp only [Act.put, List.setIfInBounds_toArray, List.set_cons_zero, List.set_cons_succ]
          refine wpAnyH_take (i := 12) (oi := { dst := some 97, op := Op.move (Operand.tmp 96), type := 4, pos := "law.go:101", after := #[{ on := 11, ground := Ground.data }, { on := 7, ground := Ground.chain }], guard := none }) (v := ?_) rfl (by kernel_rfl) (by kernel_rfl) (by kernel_rfl) (fun _ _ _ h => h) (Or.inl ⟨by rfl, ?_⟩) E0.out ?_
          rotate_left
          · (intro w1 hS; go_simp; try with_reducible rfl)
          simp only [Act.put, List.setIfInBounds_toArray, List.set_cons_zero, List.set_cons_succ]
          refine wpAnyH_take (i := 13) (oi := { dst := some 98, op := Op.move (Operand.tmp 13), type := 22, pos := "law.go:101", after := #[{ on := 12, ground := Ground.guard }], guard := some (12, false) }) (v := ?_) rfl (by kernel_rfl) (by kernel_rfl) (by kernel_rfl) (fun _ _ _ h => h) (Or.inl ⟨by rfl, ?_⟩) E0.out ?_
          rotate_left
          · (intro w1 hS; go_simp; try with_reducible rfl)
          simp only [Act.put, List.setIfInBounds_toArray, List.set_cons_zero, List.set_cons_succ]
          refine wpAnyH_take (i := 14) (oi := { dst := some 99, op := Op.call { callee := Callee.builtin Builtin.len, args := #[Operand.tmp 98], argTypes := #[22] }, type := 3, pos := "law.go:101", after := #[{ on := 13, ground := Ground.data }, { on := 12, ground := Ground.guard }], guard := some (12, false) }) (v := ?_) rfl (by kernel_rfl) (by kernel_rfl) (by kernel_rfl) (fun _ _ _ h => h) (Or.inl ⟨by rfl, ?_⟩) E0.out ?_
          rotate_left
          · (intro w1 hS; go_simp; try with_reducible rfl)
          simp only [Act.put, List.setIfInBounds_toArray, List.set_cons_zero, List.set_cons_succ]
          refine wpAnyH_take (i := 15) (oi := { dst := some 100, op := Op.move (Operand.tmp 14), type := 3, pos := "law.go:101", after := #[{ on := 12, ground := Ground.guard }], guard := some (12, false) }) (v := ?_) rfl (by kernel_rfl) (by kernel_rfl) (by kernel_rfl) (fun _ _ _ h => h) (Or.inl ⟨by rfl, ?_⟩) E0.out ?_
          rotate_left
          · (intro w1 hS; go_simp; try with_reducible rfl)
          simp only [Act.put, List.setIfInBounds_toArray, List.set_cons_zero, List.set_cons_succ]
          refine wpAnyH_take (i := 16) (oi := { dst := some 101, op := Op.binOp BinOp.neq 3 (Operand.tmp 99) (Operand.tmp 100) 3, type := 4, pos := "law.go:101", after := #[{ on := 14, ground := Ground.data }, { on := 15, ground := Ground.data }, { on := 12, ground := Ground.guard }], guard := some (12, false) }) (v := ?_) rfl (by kernel_rfl) (by kernel_rfl) (by kernel_rfl) (fun _ _ _ h => h) (Or.inl ⟨by rfl, ?_⟩) E0.out ?_
          rotate_left
          · (intro w1 hS; go_simp; try with_reducible rfl)
          simp only [Act.put, List.setIfInBounds_toArray, List.set_cons_zero, List.set_cons_succ]
          refine wpAnyH_take (i := 17) (oi := { dst := some 102, op := Op.pick (Operand.tmp 97) (Operand.const (Value.bool true)) (Operand.tmp 101), type := 4, pos := "law.go:101", after := #[{ on := 12, ground := Ground.data }, { on := 16, ground := Ground.data }], guard := none }) (v := ?_) rfl (by kernel_rfl) (by kernel_rfl) (by kernel_rfl) (fun _ _ _ h => h) (Or.inl ⟨by rfl, ?_⟩) E0.out ?_
          rotate_left
          · (intro w1 hS; go_simp; try with_reducible rfl)
          simp only [Act.put, List.setIfInBounds_toArray, List.set_cons_zero, List.set_cons_succ]
          refine wpAnyH_take (i := 18) (oi := { dst := some 103, op := Op.move (Operand.tmp 102), type := 4, pos := "law.go:101", after := #[{ on := 17, ground := Ground.data }, { on := 12, ground := Ground.chain }], guard := none }) (v := ?_) rfl (by kernel_rfl) (by kernel_rfl) (by kernel_rfl) (fun _ _ _ h => h) (Or.inl ⟨by rfl, ?_⟩) E0.out ?_
          rotate_left
          · (intro w1 hS; go_simp; try with_reducible rfl)
          simp only [Act.put, List.setIfInBounds_toArray, List.set_cons_zero, List.set_cons_succ]
          refine wpAnyH_take (i := 19) (oi := { dst := some 104, op := Op.move (Operand.tmp 13), type := 22, pos := "law.go:101", after := #[{ on := 18, ground := Ground.guard }], guard := some (18, false) }) (v := ?_) rfl (by kernel_rfl) (by kernel_rfl) (by kernel_rfl) (fun _ _ _ h => h) (Or.inl ⟨by rfl, ?_⟩) E0.out ?_
          rotate_left
          · (intro w1 hS; go_simp; try with_reducible rfl)
          simp only [Act.put, List.setIfInBounds_toArray, List.set_cons_zero, List.set_cons_succ]
          refine wpAnyH_take (i := 20) (oi := { dst := some 105, op := Op.move (Operand.tmp 14), type := 3, pos := "law.go:101", after := #[{ on := 18, ground := Ground.guard }], guard := some (18, false) }) (v := ?_) rfl (by kernel_rfl) (by kernel_rfl) (by kernel_rfl) (fun _ _ _ h => h) (Or.inl ⟨by rfl, ?_⟩) E0.out ?_
          rotate_left
          · (intro w1 hS; go_simp; try with_reducible rfl)
          simp only [Act.put, List.setIfInBounds_toArray, List.set_cons_zero, List.set_cons_succ]
          refine wpAnyH_take (i := 21) (oi := { dst := some 106, op := Op.binOp BinOp.sub 3 (Operand.tmp 105) (Operand.const (Value.int IntKind.i64 2)) 3, type := 3, pos := "law.go:101", after := #[{ on := 20, ground := Ground.data }, { on := 18, ground := Ground.guard }], guard := some (18, false) }) (v := ?_) rfl (by kernel_rfl) (by kernel_rfl) (by kernel_rfl) (fun _ _ _ h => h) (Or.inl ⟨by rfl, ?_⟩) E0.out ?_
          rotate_left
          · (intro w1 hS; go_simp; try with_reducible rfl)
          simp only [Act.put, List.setIfInBounds_toArray, List.set_cons_zero, List.set_cons_succ]
          refine wpAnyH_take (i := 22) (oi := { dst := some 107, op := Op.slice 22 (Operand.tmp 104) none (some (Operand.tmp 106)) none, type := 22, pos := "law.go:101", after := #[{ on := 19, ground := Ground.data }, { on := 21, ground := Ground.data }, { on := 18, ground := Ground.guard }], guard := some (18, false) }) (v := ?_) rfl (by kernel_rfl) (by kernel_rfl) (by kernel_rfl) (fun _ _ _ h => h) (Or.inl ⟨by rfl, ?_⟩) E0.out ?_
          rotate_left
          · (intro w1 hS; have hW := hS; have q : (16 : Int) ≤ (c7 : Int) := (by omega); clear hW hS; go_simp; try with_reducible rfl)
          simp only [Act.put, List.setIfInBounds_toArray, List.set_cons_zero, List.set_cons_succ]
          refine wpAnyH_take (i := 23) (oi := { dst := some 108, op := Op.convert 22 9 (Operand.tmp 107), type := 9, pos := "law.go:101", after := #[{ on := 22, ground := Ground.data }, { on := 18, ground := Ground.guard }], guard := some (18, false) }) (v := ?_) rfl (by kernel_rfl) (by kernel_rfl) (by kernel_rfl) (fun _ _ _ h => h) (Or.inl ⟨by rfl, ?_⟩) E0.out ?_
          rotate_left
          · (intro w1 hS; have hW := hS; have q := HCX.out w1 hW; clear hW hS; go_simp; try with_reducible rfl)
          simp only [Act.put, List.setIfInBounds_toArray, List.set_cons_zero, List.set_cons_succ]
          refine wpAnyH_take (i := 24) (oi := { dst := some 109, op := Op.move (Operand.tmp 7), type := 22, pos := "law.go:101", after := #[{ on := 18, ground := Ground.guard }], guard := some (18, false) }) (v := ?_) rfl (by kernel_rfl) (by kernel_rfl) (by kernel_rfl) (fun _ _ _ h => h) (Or.inl ⟨by rfl, ?_⟩) E0.out ?_
          rotate_left
          · (intro w1 hS; go_simp; try with_reducible rfl)
          simp only [Act.put, List.setIfInBounds_toArray, List.set_cons_zero, List.set_cons_succ]
          refine wpAnyH_take (i := 25) (oi := { dst := some 110, op := Op.move (Operand.tmp 14), type := 3, pos := "law.go:101", after := #[{ on := 18, ground := Ground.guard }], guard := some (18, false) }) (v := ?_) rfl (by kernel_rfl) (by kernel_rfl) (by kernel_rfl) (fun _ _ _ h => h) (Or.inl ⟨by rfl, ?_⟩) E0.out ?_
          rotate_left
          · (intro w1 hS; go_simp; try with_reducible rfl)
          simp only [Act.put, List.setIfInBounds_toArray, List.set_cons_zero, List.set_cons_succ]
          refine wpAnyH_take (i := 26) (oi := { dst := some 111, op := Op.binOp BinOp.sub 3 (Operand.tmp 110) (Operand.const (Value.int IntKind.i64 2)) 3, type := 3, pos := "law.go:101", after := #[{ on := 25, ground := Ground.data }, { on := 18, ground := Ground.guard }], guard := some (18, false) }) (v := ?_) rfl (by kernel_rfl) (by kernel_rfl) (by kernel_rfl) (fun _ _ _ h => h) (Or.inl ⟨by rfl, ?_⟩) E0.out ?_
          rotate_left
          · (intro w1 hS; go_simp; try with_reducible rfl)
          simp only [Act.put, List.setIfInBounds_toArray, List.set_cons_zero, List.set_cons_succ]
          refine wpAnyH_take (i := 27) (oi := { dst := some 112, op := Op.slice 22 (Operand.tmp 109) none (some (Operand.tmp 111)) none, type := 22, pos := "law.go:101", after := #[{ on := 24, ground := Ground.data }, { on := 26, ground := Ground.data }, { on := 18, ground := Ground.guard }], guard := some (18, false) }) (v := ?_) rfl (by kernel_rfl) (by kernel_rfl) (by kernel_rfl) (fun _ _ _ h => h) (Or.inl ⟨by rfl, ?_⟩) E0.out ?_
          rotate_left
          · (intro w1 hS; have hW := hS; have q : (16 : Int) ≤ (c5 : Int) := (by omega); clear hW hS; go_simp; try with_reducible rfl)
          simp only [Act.put, List.setIfInBounds_toArray, List.set_cons_zero, List.set_cons_succ]
          refine wpAnyH_take (i := 28) (oi := { dst := some 113, op := Op.convert 22 9 (Operand.tmp 112), type := 9, pos := "law.go:101", after := #[{ on := 27, ground := Ground.data }, { on := 18, ground := Ground.guard }], guard := some (18, false) }) (v := ?_) rfl (by kernel_rfl) (by kernel_rfl) (by kernel_rfl) (fun _ _ _ h => h) (Or.inl ⟨by rfl, ?_⟩) E0.out ?_
          rotate_left
          · (intro w1 hS; have hW := hS; have q := HCZ.out w1 hW; clear hW hS; go_simp; try with_reducible rfl)
          simp only [Act.put, List.setIfInBounds_toArray, List.set_cons_zero, List.set_cons_succ]
          refine wpAnyH_take (i := 29) (oi := { dst := some 114, op := Op.binOp BinOp.neq 9 (Operand.tmp 108) (Operand.tmp 113) 9, type := 4, pos := "law.go:101", after := #[{ on := 23, ground := Ground.data }, { on := 28, ground := Ground.data }, { on := 18, ground := Ground.guard }], guard := some (18, false) }) (v := ?_) rfl (by kernel_rfl) (by kernel_rfl) (by kernel_rfl) (fun _ _ _ h => h) (Or.inl ⟨by rfl, ?_⟩) E0.out ?_
          rotate_left
          · (intro w1 hS; go_simp; try with_reducible rfl)
          simp only [Act.put, List.setIfInBounds_toArray, List.set_cons_zero, List.set_cons_succ]
          refine wpAnyH_take (i := 30) (oi := { dst := some 115, op := Op.pick (Operand.tmp 103) (Operand.const (Value.bool true)) (Operand.tmp 114), type := 4, pos := "law.go:101", after := #[{ on := 18, ground := Ground.data }, { on := 29, ground := Ground.data }], guard := none }) (v := ?_) rfl (by kernel_rfl) (by kernel_rfl) (by kernel_rfl) (fun _ _ _ h => h) (Or.inl ⟨by rfl, ?_⟩) E0.out ?_
          rotate_left
          · (intro w1 hS; go_simp; try with_reducible rfl)
          simp only [Act.put, List.setIfInBounds_toArray, List.set_cons_zero, List.set_cons_succ]
          refine wpAnyH_done (by kernel_rfl) ?_ _
          go_wp2_with fail
          refine (NX.out _ E0.out).mono ?_; rintro e w' ⟨rfl, rfl⟩
          go_wp2_with fail
          refine (awake_any _).mono ?_
          rintro e w9 ⟨rfl, hb⟩
          have B9 := Lib.hid ((B6.out.trans (E0.out.mono B6.out.size)).trans (hb.mono (B6.out.trans (E0.out.mono B6.out.size)).size))
          clear hb E0 B6
          go_wp2
          go_ret
          exact ⟨rfl, B9.out⟩
        · go_wp2_with fail
          refine wp_region_held (S := (fun w' : World => Below W.heap.size W w')) (by kernel_rfl) ?_
          change wpAnyH _ _ _ _ _ _ _ _ W.drew
          have hE0 : Below W.heap.size W W.drew := (Below.refl _ _).drew
          generalize W.drew = Y0 at hE0 ⊢
          have E0 := Lib.hid hE0
          clear hE0
          refine wpAnyH_take (i := 0) (oi := { dst := some 85, op := Op.move (Operand.tmp 11), type := 3, pos := "law.go:101", after := #[], guard := none }) (v := ?_) rfl (by kernel_rfl) (by kernel_rfl) (by kernel_rfl) (fun _ _ _ h => h) (Or.inl ⟨by rfl, ?_⟩) E0.out ?_
          rotate_left
          · (intro w1 hS; go_simp; try with_reducible rfl)
          simp only [Act.put, List.setIfInBounds_toArray, List.set_cons_zero, List.set_cons_succ]
          refine wpAnyH_take (i := 1) (oi := { dst := some 86, op := Op.binOp BinOp.neq 3 (Operand.tmp 85) (Operand.const (Value.int IntKind.i64 0)) 3, type := 4, pos := "law.go:101", after := #[{ on := 0, ground := Ground.data }], guard := none }) (v := ?_) rfl (by kernel_rfl) (by kernel_rfl) (by kernel_rfl) (fun _ _ _ h => h) (Or.inl ⟨by rfl, ?_⟩) E0.out ?_
          rotate_left
          · (intro w1 hS; go_simp; try with_reducible rfl)
          simp only [Act.put, List.setIfInBounds_toArray, List.set_cons_zero, List.set_cons_succ]
          refine wpAnyH_take (i := 2) (oi := { dst := some 87, op := Op.move (Operand.tmp 86), type := 4, pos := "law.go:101", after := #[{ on := 1, ground := Ground.data }], guard := none }) (v := ?_) rfl (by kernel_rfl) (by kernel_rfl) (by kernel_rfl) (fun _ _ _ h => h) (Or.inl ⟨by rfl, ?_⟩) E0.out ?_
          rotate_left
          · (intro w1 hS; go_simp; try with_reducible rfl)
          simp only [Act.put, List.setIfInBounds_toArray, List.set_cons_zero, List.set_cons_succ]
          refine wpAnyH_take (i := 3) (oi := { dst := some 88, op := Op.move (Operand.tmp 9), type := 3, pos := "law.go:101", after := #[{ on := 2, ground := Ground.guard }], guard := some (2, false) }) (v := ?_) rfl (by kernel_rfl) (by kernel_rfl) (by kernel_rfl) (fun _ _ _ h => h) (Or.inl ⟨by rfl, ?_⟩) E0.out ?_
          rotate_left
          · (intro w1 hS; go_simp; try with_reducible rfl)
          simp only [Act.put, List.setIfInBounds_toArray, List.set_cons_zero, List.set_cons_succ]
          refine wpAnyH_take (i := 4) (oi := { dst := some 89, op := Op.move (Operand.tmp 14), type := 3, pos := "law.go:101", after := #[{ on := 2, ground := Ground.guard }], guard := some (2, false) }) (v := ?_) rfl (by kernel_rfl) (by kernel_rfl) (by kernel_rfl) (fun _ _ _ h => h) (Or.inl ⟨by rfl, ?_⟩) E0.out ?_
          rotate_left
          · (intro w1 hS; go_simp; try with_reducible rfl)
          simp only [Act.put, List.setIfInBounds_toArray, List.set_cons_zero, List.set_cons_succ]
          refine wpAnyH_take (i := 5) (oi := { dst := some 90, op := Op.binOp BinOp.neq 3 (Operand.tmp 88) (Operand.tmp 89) 3, type := 4, pos := "law.go:101", after := #[{ on := 3, ground := Ground.data }, { on := 4, ground := Ground.data }, { on := 2, ground := Ground.guard }], guard := some (2, false) }) (v := ?_) rfl (by kernel_rfl) (by kernel_rfl) (by kernel_rfl) (fun _ _ _ h => h) (Or.inl ⟨by rfl, ?_⟩) E0.out ?_
          rotate_left
          · (intro w1 hS; go_simp; try with_reducible rfl)
          simp only [Act.put, List.setIfInBounds_toArray, List.set_cons_zero, List.set_cons_succ]
          refine wpAnyH_take (i := 6) (oi := { dst := some 91, op := Op.pick (Operand.tmp 87) (Operand.const (Value.bool true)) (Operand.tmp 90), type := 4, pos := "law.go:101", after := #[{ on := 2, ground := Ground.data }, { on := 5, ground := Ground.data }], guard := none }) (v := ?_) rfl (by kernel_rfl) (by kernel_rfl) (by kernel_rfl) (fun _ _ _ h => h) (Or.inl ⟨by rfl, ?_⟩) E0.out ?_
          rotate_left
          · (intro w1 hS; go_simp; try with_reducible rfl)
          simp only [Act.put, List.setIfInBounds_toArray, List.set_cons_zero, List.set_cons_succ]
          refine wpAnyH_take (i := 7) (oi := { dst := some 92, op := Op.move (Operand.tmp 91), type := 4, pos := "law.go:101", after := #[{ on := 6, ground := Ground.data }, { on := 2, ground := Ground.chain }], guard := none }) (v := ?_) rfl (by kernel_rfl) (by kernel_rfl) (by kernel_rfl) (fun _ _ _ h => h) (Or.inl ⟨by rfl, ?_⟩) E0.out ?_
          rotate_left
          · (intro w1 hS; go_simp; try with_reducible rfl)
          simp only [Act.put, List.setIfInBounds_toArray, List.set_cons_zero, List.set_cons_succ]
          refine wpAnyH_take (i := 8) (oi := { dst := some 93, op := Op.move (Operand.tmp 10), type := 23, pos := "law.go:101", after := #[{ on := 7, ground := Ground.guard }], guard := some (7, false) }) (v := ?_) rfl (by kernel_rfl) (by kernel_rfl) (by kernel_rfl) (fun _ _ _ h => h) (Or.inl ⟨by rfl, ?_⟩) E0.out ?_
          rotate_left
          · (intro w1 hS; go_simp; try with_reducible rfl)
          simp only [Act.put, List.setIfInBounds_toArray, List.set_cons_zero, List.set_cons_succ]
          refine wpAnyH_take (i := 9) (oi := { dst := some 94, op := Op.move (Operand.tmp 0), type := 23, pos := "law.go:101", after := #[{ on := 7, ground := Ground.guard }], guard := some (7, false) }) (v := ?_) rfl (by kernel_rfl) (by kernel_rfl) (by kernel_rfl) (fun _ _ _ h => h) (Or.inl ⟨by rfl, ?_⟩) E0.out ?_
          rotate_left
          · (intro w1 hS; go_simp; try with_reducible rfl)
          simp only [Act.put, List.setIfInBounds_toArray, List.set_cons_zero, List.set_cons_succ]
          refine wpAnyH_take (i := 10) (oi := { dst := some 95, op := Op.binOp BinOp.neq 23 (Operand.tmp 93) (Operand.tmp 94) 23, type := 4, pos := "law.go:101", after := #[{ on := 8, ground := Ground.data }, { on := 9, ground := Ground.data }, { on := 7, ground := Ground.guard }], guard := some (7, false) }) (v := ?_) rfl (by kernel_rfl) (by kernel_rfl) (by kernel_rfl) (fun _ _ _ h => h) (Or.inl ⟨by rfl, ?_⟩) E0.out ?_
          rotate_left
          · (intro w1 hS; go_simp; try with_reducible rfl)
          simp only [Act.put, List.setIfInBounds_toArray, List.set_cons_zero, List.set_cons_succ]
          refine wpAnyH_take (i := 11) (oi := { dst := some 96, op := Op.pick (Operand.tmp 92) (Operand.const (Value.bool true)) (Operand.tmp 95), type := 4, pos := "law.go:101", after := #[{ on := 7, ground := Ground.data }, { on := 10, ground := Ground.data }], guard := none }) (v := ?_) rfl (by kernel_rfl) (by kernel_rfl) (by kernel_rfl) (fun _ _ _ h => h) (Or.inl ⟨by rfl, ?_⟩) E0.out ?_
          rotate_left
          · (intro w1 hS; go_simp; try with_reducible rfl)
          simp only [Act.put, List.setIfInBounds_toArray, List.set_cons_zero, List.set_cons_succ]
          refine wpAnyH_take (i := 12) (oi := { dst := some 97, op := Op.move (Operand.tmp 96), type := 4, pos := "law.go:101", after := #[{ on := 11, ground := Ground.data }, { on := 7, ground := Ground.chain }], guard := none }) (v := ?_) rfl (by kernel_rfl) (by kernel_rfl) (by kernel_rfl) (fun _ _ _ h => h) (Or.inl ⟨by rfl, ?_⟩) E0.out ?_
          rotate_left
          · (intro w1 hS; go_simp; try with_reducible rfl)
          simp only [Act.put, List.setIfInBounds_toArray, List.set_cons_zero, List.set_cons_succ]
          refine wpAnyH_take (i := 13) (oi := { dst := some 98, op := Op.move (Operand.tmp 13), type := 22, pos := "law.go:101", after := #[{ on := 12, ground := Ground.guard }], guard := some (12, false) }) (v := ?_) rfl (by kernel_rfl) (by kernel_rfl) (by kernel_rfl) (fun _ _ _ h => h) (Or.inl ⟨by rfl, ?_⟩) E0.out ?_
          rotate_left
          · (intro w1 hS; go_simp; try with_reducible rfl)
          simp only [Act.put, List.setIfInBounds_toArray, List.set_cons_zero, List.set_cons_succ]
          refine wpAnyH_take (i := 14) (oi := { dst := some 99, op := Op.call { callee := Callee.builtin Builtin.len, args := #[Operand.tmp 98], argTypes := #[22] }, type := 3, pos := "law.go:101", after := #[{ on := 13, ground := Ground.data }, { on := 12, ground := Ground.guard }], guard := some (12, false) }) (v := ?_) rfl (by kernel_rfl) (by kernel_rfl) (by kernel_rfl) (fun _ _ _ h => h) (Or.inl ⟨by rfl, ?_⟩) E0.out ?_
          rotate_left
          · (intro w1 hS; go_simp; try with_reducible rfl)
          simp only [Act.put, List.setIfInBounds_toArray, List.set_cons_zero, List.set_cons_succ]
          refine wpAnyH_take (i := 15) (oi := { dst := some 100, op := Op.move (Operand.tmp 14), type := 3, pos := "law.go:101", after := #[{ on := 12, ground := Ground.guard }], guard := some (12, false) }) (v := ?_) rfl (by kernel_rfl) (by kernel_rfl) (by kernel_rfl) (fun _ _ _ h => h) (Or.inl ⟨by rfl, ?_⟩) E0.out ?_
          rotate_left
          · (intro w1 hS; go_simp; try with_reducible rfl)
          simp only [Act.put, List.setIfInBounds_toArray, List.set_cons_zero, List.set_cons_succ]
          refine wpAnyH_take (i := 16) (oi := { dst := some 101, op := Op.binOp BinOp.neq 3 (Operand.tmp 99) (Operand.tmp 100) 3, type := 4, pos := "law.go:101", after := #[{ on := 14, ground := Ground.data }, { on := 15, ground := Ground.data }, { on := 12, ground := Ground.guard }], guard := some (12, false) }) (v := ?_) rfl (by kernel_rfl) (by kernel_rfl) (by kernel_rfl) (fun _ _ _ h => h) (Or.inl ⟨by rfl, ?_⟩) E0.out ?_
          rotate_left
          · (intro w1 hS; go_simp; try with_reducible rfl)
          simp only [Act.put, List.setIfInBounds_toArray, List.set_cons_zero, List.set_cons_succ]
          refine wpAnyH_take (i := 17) (oi := { dst := some 102, op := Op.pick (Operand.tmp 97) (Operand.const (Value.bool true)) (Operand.tmp 101), type := 4, pos := "law.go:101", after := #[{ on := 12, ground := Ground.data }, { on := 16, ground := Ground.data }], guard := none }) (v := ?_) rfl (by kernel_rfl) (by kernel_rfl) (by kernel_rfl) (fun _ _ _ h => h) (Or.inl ⟨by rfl, ?_⟩) E0.out ?_
          rotate_left
          · (intro w1 hS; go_simp; try with_reducible rfl)
          simp only [Act.put, List.setIfInBounds_toArray, List.set_cons_zero, List.set_cons_succ]
          refine wpAnyH_take (i := 18) (oi := { dst := some 103, op := Op.move (Operand.tmp 102), type := 4, pos := "law.go:101", after := #[{ on := 17, ground := Ground.data }, { on := 12, ground := Ground.chain }], guard := none }) (v := ?_) rfl (by kernel_rfl) (by kernel_rfl) (by kernel_rfl) (fun _ _ _ h => h) (Or.inl ⟨by rfl, ?_⟩) E0.out ?_
          rotate_left
          · (intro w1 hS; go_simp; try with_reducible rfl)
          simp only [Act.put, List.setIfInBounds_toArray, List.set_cons_zero, List.set_cons_succ]
          refine wpAnyH_take (i := 19) (oi := { dst := some 104, op := Op.move (Operand.tmp 13), type := 22, pos := "law.go:101", after := #[{ on := 18, ground := Ground.guard }], guard := some (18, false) }) (v := ?_) rfl (by kernel_rfl) (by kernel_rfl) (by kernel_rfl) (fun _ _ _ h => h) (Or.inl ⟨by rfl, ?_⟩) E0.out ?_
          rotate_left
          · (intro w1 hS; go_simp; try with_reducible rfl)
          simp only [Act.put, List.setIfInBounds_toArray, List.set_cons_zero, List.set_cons_succ]
          refine wpAnyH_take (i := 20) (oi := { dst := some 105, op := Op.move (Operand.tmp 14), type := 3, pos := "law.go:101", after := #[{ on := 18, ground := Ground.guard }], guard := some (18, false) }) (v := ?_) rfl (by kernel_rfl) (by kernel_rfl) (by kernel_rfl) (fun _ _ _ h => h) (Or.inl ⟨by rfl, ?_⟩) E0.out ?_
          rotate_left
          · (intro w1 hS; go_simp; try with_reducible rfl)
          simp only [Act.put, List.setIfInBounds_toArray, List.set_cons_zero, List.set_cons_succ]
          refine wpAnyH_take (i := 21) (oi := { dst := some 106, op := Op.binOp BinOp.sub 3 (Operand.tmp 105) (Operand.const (Value.int IntKind.i64 2)) 3, type := 3, pos := "law.go:101", after := #[{ on := 20, ground := Ground.data }, { on := 18, ground := Ground.guard }], guard := some (18, false) }) (v := ?_) rfl (by kernel_rfl) (by kernel_rfl) (by kernel_rfl) (fun _ _ _ h => h) (Or.inl ⟨by rfl, ?_⟩) E0.out ?_
          rotate_left
          · (intro w1 hS; go_simp; try with_reducible rfl)
          simp only [Act.put, List.setIfInBounds_toArray, List.set_cons_zero, List.set_cons_succ]
          refine wpAnyH_take (i := 22) (oi := { dst := some 107, op := Op.slice 22 (Operand.tmp 104) none (some (Operand.tmp 106)) none, type := 22, pos := "law.go:101", after := #[{ on := 19, ground := Ground.data }, { on := 21, ground := Ground.data }, { on := 18, ground := Ground.guard }], guard := some (18, false) }) (v := ?_) rfl (by kernel_rfl) (by kernel_rfl) (by kernel_rfl) (fun _ _ _ h => h) (Or.inl ⟨by rfl, ?_⟩) E0.out ?_
          rotate_left
          · (intro w1 hS; have hW := hS; have q : (16 : Int) ≤ (c7 : Int) := (by omega); clear hW hS; go_simp; try with_reducible rfl)
          simp only [Act.put, List.setIfInBounds_toArray, List.set_cons_zero, List.set_cons_succ]
          refine wpAnyH_take (i := 23) (oi := { dst := some 108, op := Op.convert 22 9 (Operand.tmp 107), type := 9, pos := "law.go:101", after := #[{ on := 22, ground := Ground.data }, { on := 18, ground := Ground.guard }], guard := some (18, false) }) (v := ?_) rfl (by kernel_rfl) (by kernel_rfl) (by kernel_rfl) (fun _ _ _ h => h) (Or.inl ⟨by rfl, ?_⟩) E0.out ?_
          rotate_left
          · (intro w1 hS; have hW := hS; have q := HCX.out w1 hW; clear hW hS; go_simp; try with_reducible rfl)
          simp only [Act.put, List.setIfInBounds_toArray, List.set_cons_zero, List.set_cons_succ]
          refine wpAnyH_take (i := 24) (oi := { dst := some 109, op := Op.move (Operand.tmp 7), type := 22, pos := "law.go:101", after := #[{ on := 18, ground := Ground.guard }], guard := some (18, false) }) (v := ?_) rfl (by kernel_rfl) (by kernel_rfl) (by kernel_rfl) (fun _ _ _ h => h) (Or.inl ⟨by rfl, ?_⟩) E0.out ?_
          rotate_left
          · (intro w1 hS; go_simp; try with_reducible rfl)
          simp only [Act.put, List.setIfInBounds_toArray, List.set_cons_zero, List.set_cons_succ]
          refine wpAnyH_take (i := 25) (oi := { dst := some 110, op := Op.move (Operand.tmp 14), type := 3, pos := "law.go:101", after := #[{ on := 18, ground := Ground.guard }], guard := some (18, false) }) (v := ?_) rfl (by kernel_rfl) (by kernel_rfl) (by kernel_rfl) (fun _ _ _ h => h) (Or.inl ⟨by rfl, ?_⟩) E0.out ?_
          rotate_left
          · (intro w1 hS; go_simp; try with_reducible rfl)
          simp only [Act.put, List.setIfInBounds_toArray, List.set_cons_zero, List.set_cons_succ]
          refine wpAnyH_take (i := 26) (oi := { dst := some 111, op := Op.binOp BinOp.sub 3 (Operand.tmp 110) (Operand.const (Value.int IntKind.i64 2)) 3, type := 3, pos := "law.go:101", after := #[{ on := 25, ground := Ground.data }, { on := 18, ground := Ground.guard }], guard := some (18, false) }) (v := ?_) rfl (by kernel_rfl) (by kernel_rfl) (by kernel_rfl) (fun _ _ _ h => h) (Or.inl ⟨by rfl, ?_⟩) E0.out ?_
          rotate_left
          · (intro w1 hS; go_simp; try with_reducible rfl)
          simp only [Act.put, List.setIfInBounds_toArray, List.set_cons_zero, List.set_cons_succ]
          refine wpAnyH_take (i := 27) (oi := { dst := some 112, op := Op.slice 22 (Operand.tmp 109) none (some (Operand.tmp 111)) none, type := 22, pos := "law.go:101", after := #[{ on := 24, ground := Ground.data }, { on := 26, ground := Ground.data }, { on := 18, ground := Ground.guard }], guard := some (18, false) }) (v := ?_) rfl (by kernel_rfl) (by kernel_rfl) (by kernel_rfl) (fun _ _ _ h => h) (Or.inl ⟨by rfl, ?_⟩) E0.out ?_
          rotate_left
          · (intro w1 hS; have hW := hS; have q : (16 : Int) ≤ (c5 : Int) := (by omega); clear hW hS; go_simp; try with_reducible rfl)
          simp only [Act.put, List.setIfInBounds_toArray, List.set_cons_zero, List.set_cons_succ]
          refine wpAnyH_take (i := 28) (oi := { dst := some 113, op := Op.convert 22 9 (Operand.tmp 112), type := 9, pos := "law.go:101", after := #[{ on := 27, ground := Ground.data }, { on := 18, ground := Ground.guard }], guard := some (18, false) }) (v := ?_) rfl (by kernel_rfl) (by kernel_rfl) (by kernel_rfl) (fun _ _ _ h => h) (Or.inl ⟨by rfl, ?_⟩) E0.out ?_
          rotate_left
          · (intro w1 hS; have hW := hS; have q := HCZ.out w1 hW; clear hW hS; go_simp; try with_reducible rfl)
          simp only [Act.put, List.setIfInBounds_toArray, List.set_cons_zero, List.set_cons_succ]
          refine wpAnyH_take (i := 29) (oi := { dst := some 114, op := Op.binOp BinOp.neq 9 (Operand.tmp 108) (Operand.tmp 113) 9, type := 4, pos := "law.go:101", after := #[{ on := 23, ground := Ground.data }, { on := 28, ground := Ground.data }, { on := 18, ground := Ground.guard }], guard := some (18, false) }) (v := ?_) rfl (by kernel_rfl) (by kernel_rfl) (by kernel_rfl) (fun _ _ _ h => h) (Or.inl ⟨by rfl, ?_⟩) E0.out ?_
          rotate_left
          · (intro w1 hS; go_simp; try with_reducible rfl)
          simp only [Act.put, List.setIfInBounds_toArray, List.set_cons_zero, List.set_cons_succ]
          refine wpAnyH_take (i := 30) (oi := { dst := some 115, op := Op.pick (Operand.tmp 103) (Operand.const (Value.bool true)) (Operand.tmp 114), type := 4, pos := "law.go:101", after := #[{ on := 18, ground := Ground.data }, { on := 29, ground := Ground.data }], guard := none }) (v := ?_) rfl (by kernel_rfl) (by kernel_rfl) (by kernel_rfl) (fun _ _ _ h => h) (Or.inl ⟨by rfl, ?_⟩) E0.out ?_
          rotate_left
          · (intro w1 hS; go_simp; try with_reducible rfl)
          simp only [Act.put, List.setIfInBounds_toArray, List.set_cons_zero, List.set_cons_succ]
          refine wpAnyH_done (by kernel_rfl) ?_ _
          go_wp2_with fail
          refine (NX.out _ E0.out).mono ?_; rintro e w' ⟨rfl, rfl⟩
          go_wp2_with fail
          refine (awake_any _).mono ?_
          rintro e w9 ⟨rfl, hb⟩
          have B9 := Lib.hid ((B6.out.trans (E0.out.mono B6.out.size)).trans (hb.mono (B6.out.trans (E0.out.mono B6.out.size)).size))
          clear hb E0 B6
          go_wp2
          go_ret
          exact ⟨rfl, B9.out⟩
      · have hne := Lib.hid (HN.out.2 hip)
        rw [hne.out] at NN
        have g1 : ((k : Int) != 2048) = true := by simp; omega
        have g2 : ((k : Int) != 34525) = true := by simp; omega
        clear hip
        go_wp2_with fail
        refine NN.out.mono ?_; rintro e w' ⟨rfl, rfl⟩
        clear NN HN
        go_wp2_with fail
        refine (with_noB _ _ 2048 _ R5.out HZ.out (by rw [hne.out]; decide)).mono ?_
        rintro e w6 ⟨rfl, hb⟩
        have B6 := Lib.hid (B5.out.trans (hb.mono B5.out.size))
        clear hb R5 B5 HZ hne
        go_wp2_with fail
        refine (awake_any _).mono ?_
        rintro e w7 ⟨rfl, hb⟩
        have B7 := Lib.hid (B6.out.trans (hb.mono B6.out.size))
        clear hb B6
        go_wp2
        go_ret
        exact ⟨rfl, B7.out⟩

set_option maxRecDepth 100000 in
set_option maxHeartbeats 4000000 in
theorem kinds_tag6 (k : Nat) (w : World) (hk : k < 65536) :
    Calls Try.prog 6 #[.int .u16 (k : Int), .bool true, .bool true] w fun e w' => e = .returned (.bool true) ∧ Below w.heap.size w w' := by
  have hi1 : IntKind.u8.wrap ((k : Int) / 256) = ((k / 256 : Nat) : Int) := by rw [IntKind.wrap_u8]; omega
  have lo1 := lo_i64 k
  have HK := Lib.hid hk
  obtain ⟨i0, hi, hz0, hz1, hz2⟩ := info_parts Try.info5
  have hbase : w.heap.size ≤ w.heap.size := Nat.le_refl _
  go_enter Try.func6, Try.ntmps6
  go_wp2_with (at_make; refine wpList_make_full _ rfl _ _ 22 rfl w.heap.size 5 i0 (.int .u8 0) 1 Try.underlying22 hi hz0 hz1 .i64 .i64 _ _ 12 rfl rfl ?c1 ?c2 ?c3 ?c4 hbase ?_)
  case c1 => omega
  case c2 => omega
  case c3 => rw [hz2]; omega
  case c4 => unfold maxLen; omega
  intro w1 o1 g1
  have B1 := Lib.hid ((Below.refl w.heap.size w).grown g1 (Nat.le_refl _) (fun k hk => by cases hk))
  rw [toList_madeCells_one] at o1
  have O1 := Lib.hid (show w1.ownsRow w.heap.size 5 1 (.slice (some ⟨w.heap.size, 0, none⟩) 12 12) 12 (nus .u8 (pref12 0)) from o1)
  clear o1 g1 hi hz0 hz1 hz2 hbase
  go_wp2
  go_loopw [8] (fun i wr => ∃ j : Nat, j ≤ 12 ∧ i = .int .i64 j ∧ wr.ownsRow w.heap.size 5 1 (.slice (some ⟨w.heap.size, 0, none⟩) 12 12) 12 (nus .u8 (pref12 j)) ∧ Below w.heap.size w wr) (fun i _ => 12 - (intOf i).toNat)
  case atStart => exact ⟨0, by omega, rfl, O1.out, B1.out⟩
  case round =>
    obtain ⟨j, hj, rfl, hown, hbl⟩ := hrel
    clear O1 B1
    by_cases h1 : j < 12
    · have hcell := hown.cellAt j (by omega)
      rw [nus_get _ _ _ (by rw [pref12_length j hj]; omega)] at hcell
      have hfz := hown.frozenAt j
      have hst := hown.stored j (.int .u8 ((7 * j + 3 : Nat) : Int))
      rw [nus_set, pref12_step j h1] at hst
      have hw := Lib.hid (hbl.grown hst.2 hbl.size (fun k e => by cases e; exact Nat.le_refl _))
      have HS := Lib.hid hst.1
      have he : IntKind.u8.wrap (7 * (j : Int) + 3) = ((7 * j + 3 : Nat) : Int) := by rw [IntKind.wrap_u8]; omega
      obtain ⟨x, hx⟩ : ∃ x, x = (pref12 j).getD j 0 := ⟨_, rfl⟩
      rw [← hx] at hcell
      clear hown hbl hst hx hi1 lo1
      go_wp2
      go_roundw
      case rel => exact ⟨j + 1, by omega, by go_num, HS.out, hw.out⟩
      case measure => simp [intOf]; omega
    · obtain rfl : j = 12 := by omega
      rw [pref12_all] at hown
      have O2 := Lib.hid hown
      have B2 := Lib.hid hbl
      clear hown hbl h1
      have b3 := (Below.refl wr.heap.size wr).alloc (Nat.le_refl _) (.cells (nus .u8 [129, 0, 1, 2]).toArray 5)
      have r3 := rd_lit wr .u8 5 [129, 0, 1, 2] 4 (0, 0) rfl (by simp [maxLen])
      have O3a := Lib.hid (row_under O2.out b3)
      have R3a := Lib.hid r3
      have B3a := Lib.hid (B2.out.trans (b3.mono B2.out.size))
      clear b3 r3 O2 B2
      go_wp2_with (at_builtin; refine wpList_app rfl (.tmp 31) (.tmp 32) rfl w.heap.size _ 12 (P12) rfl O3a.out (some _) 4 4 [129, 0, 1, 2] rfl R3a.out ?c31 ?c32 ?c33 ?c34)
      case c31 => intro e; cases e
      case c32 => omega
      case c33 => exact B3a.out.size
      intro v3 w3 o3 g3
      have O3 := Lib.hid (show w3.ownsRow w.heap.size 5 1 v3 16 (nus .u8 (P12 ++ [129, 0, 1, 2])) from o3)
      have B3 := Lib.hid (B3a.out.grown g3 B3a.out.size (fun k e => (O3a.out.lt k e).1))
      clear o3 g3 O3a R3a B3a
      have ec : (#[.int .u8 ((k : Int) / 256), .int .u8 ((k : Int) % 256), .int .u8 9, .int .u8 9, .int .u8 9, .int .u8 9, .int .u8 9] : Array Value) = (nus .u8 [k / 256, k % 256, 9, 9, 9, 9, 9]).toArray := by simp [nus]
      have b5 := (Below.refl w3.heap.size w3).alloc (Nat.le_refl _) (.cells (nus .u8 [k / 256, k % 256, 9, 9, 9, 9, 9]).toArray 5)
      have r5 := rd_lit w3 .u8 5 [k / 256, k % 256, 9, 9, 9, 9, 9] 7 (0, 0) rfl (by simp [maxLen])
      have O5a := Lib.hid (row_under O3.out b5)
      have R5a := Lib.hid r5
      have B5a := Lib.hid (B3.out.trans (b5.mono B3.out.size))
      clear b5 r5 O3 B3
      go_wp2_with (at_builtin; refine wpList_app rfl (.tmp 34) (.tmp 40) rfl w.heap.size _ 16 (P12 ++ [129, 0, 1, 2]) rfl O5a.out (some _) 7 7 [k / 256, k % 256, 9, 9, 9, 9, 9] rfl R5a.out ?c51 ?c52 ?c53 ?c54)
      case c51 => intro e; cases e
      case c52 => omega
      case c53 => exact B5a.out.size
      intro v5 w5 o5 g5
      have O5 := Lib.hid (show w5.ownsRow w.heap.size 5 1 v5 23 (nus .u8 (P12 ++ [129, 0, 1, 2, k / 256, k % 256, 9, 9, 9, 9, 9])) from o5)
      have B5 := Lib.hid (B5a.out.grown g5 B5a.out.size (fun k e => (O5a.out.lt k e).1))
      clear o5 g5 O5a R5a B5a
      clear ec hi1 lo1
      have h5 := O5.out
      obtain ⟨-, ⟨rfl, h0⟩ | ⟨g, c5, cur, rfl, -, -, hc5, hm5, -⟩⟩ := h5
      · cases h0
      unfold maxLen at hm5
      have R5 := Lib.hid (Rd.own O5.out)
      have HL := Lib.hid (show (P12 ++ [129, 0, 1, 2, k / 256, k % 256, 9, 9, 9, 9, 9]).length = 23 from rfl)
      have HZ : Hid (∀ c ∈ P12 ++ [129, 0, 1, 2, k / 256, k % 256, 9, 9, 9, 9, 9], c < 256) := by
        show ∀ c ∈ _, c < 256
        have := HK.out
        intro c hc
        rcases List.mem_append.1 hc with hc | hc
        · exact p12_lt c hc
        · simp only [List.mem_cons, List.not_mem_nil, or_false] at hc
          omega
      have HN := Lib.hid (kinds_tag_net k)
      have NN := Lib.hid (net_any _ _ _ R5.out HZ.out)
      clear O5
      by_cases hip : k = 2048 ∨ k = 34525
      · have hne := Lib.hid (HN.out.1 hip)
        rw [hne.out] at NN
        go_wp2_with fail
        refine NN.out.mono ?_; rintro e w' ⟨rfl, rfl⟩
        clear NN HN
        go_wp2_with fail
        refine (with_yes _ _ 34525 16 _ R5.out HZ.out (by decide) (by rw [hne.out]) (by rw [hne.out]) (by rw [HL.out]; decide) (by decide)).mono ?_
        rintro e W ⟨x, rfl, ho, hb⟩
        have B6 := Lib.hid (B5.out.trans (hb.mono B5.out.size))
        have RZ := Lib.hid (R5.out.below hb)
        have RX0 := Rd.own ho
        obtain ⟨-, ⟨rfl, h0⟩ | ⟨g7, c7, cur7, rfl, -, -, hc7, hm7, -⟩⟩ := ho
        · cases h0
        unfold maxLen at hm7
        have htk : (P12 ++ [129, 0, 1, 2, k / 256, k % 256, 9, 9, 9, 9, 9]).take 16 ++ bg 2 34525 = P12 ++ [129, 0, 1, 2] ++ [134, 221] := by simp [P12, bg]
        rw [htk] at RX0
        have RX := Lib.hid RX0
        clear hb RX0 htk R5 B5 HZ hne
        have hcx : ∀ W', Below W.heap.size W W' → (convert 22 9 (.slice (some ⟨g7, 0, none⟩) 16 c7)).run Try.prog W' = .ok (.string (str (P12 ++ [129, 0, 1, 2]))) W' := fun W' hW' =>
          conv_rd W' 22 9 5 Try.underlying22 Try.underlying5 Try.underlying9 _ _ ((RX.out.front 16 (by decide)).below hW')
        have hcz : ∀ W', Below W.heap.size W W' → (convert 22 9 (.slice (some ⟨g, 0, none⟩) 16 c5)).run Try.prog W' = .ok (.string (str (P12 ++ [129, 0, 1, 2]))) W' := fun W' hW' =>
          conv_rd W' 22 9 5 Try.underlying22 Try.underlying5 Try.underlying9 _ _ ((RZ.out.front 16 (by rw [HL.out]; decide)).below hW')
        obtain ⟨T, hT⟩ : ∃ T, T = str (P12 ++ [129, 0, 1, 2]) := ⟨_, rfl⟩
        rw [← hT] at hcx hcz
        have HCX := Lib.hid hcx
        have HCZ := Lib.hid hcz
        have NX := Lib.hid (fun W' (h : Below W.heap.size W W') => net_any _ _ W' (RX.out.below h) (by decide))
        rw [show net (P12 ++ [129, 0, 1, 2] ++ [134, 221]) = (18, 34525, 0) from by decide] at NX
        clear hT hcx hcz RX RZ HL
        have hws : IntKind.i64.wrap (16 : Int) = 16 := by decide
        rcases hip with rfl | rfl
        · go_wp2_with fail
          refine wp_region_held (S := (fun w' : World => Below W.heap.size W w')) (by kernel_rfl) ?_
          change wpAnyH _ _ _ _ _ _ _ _ W.drew
          have hE0 : Below W.heap.size W W.drew := (Below.refl _ _).drew
          generalize W.drew = Y0 at hE0 ⊢
          have E0 := Lib.hid hE0
          clear hE0
          refine wpAnyH_take (i := 0) (oi := { dst := some 85, op := Op.move (Operand.tmp 11), type := 3, pos := "law.go:101", after := #[], guard := none }) (v := ?_) rfl (by kernel_rfl) (by kernel_rfl) (by kernel_rfl) (fun _ _ _ h => h) (Or.inl ⟨by rfl, ?_⟩) E0.out ?_
          rotate_left
          · (intro w1 hS; go_simp; try with_reducible rfl)
          simp only [Act.put, List.setIfInBounds_toArray, List.set_cons_zero, List.set_cons_succ]
          refine wpAnyH_take (i := 1) (oi := { dst := some 86, op := Op.binOp BinOp.neq 3 (Operand.tmp 85) (Operand.const (Value.int IntKind.i64 0)) 3, type := 4, pos := "law.go:101", after := #[{ on := 0, ground := Ground.data }], guard := none }) (v := ?_) rfl (by kernel_rfl) (by kernel_rfl) (by kernel_rfl) (fun _ _ _ h => h) (Or.inl ⟨by rfl, ?_⟩) E0.out ?_
          rotate_left
          · (intro w1 hS; go_simp; try with_reducible rfl)
          simp only [Act.put, List.setIfInBounds_toArray, List.set_cons_zero, List.set_cons_succ]
          refine wpAnyH_take (i := 2) (oi := { dst := some 87, op := Op.move (Operand.tmp 86), type := 4, pos := "law.go:101", after := #[{ on := 1, ground := Ground.data }], guard := none }) (v := ?_) rfl (by kernel_rfl) (by kernel_rfl) (by kernel_rfl) (fun _ _ _ h => h) (Or.inl ⟨by rfl, ?_⟩) E0.out ?_
          rotate_left
          · (intro w1 hS; go_simp; try with_reducible rfl)
          simp only [Act.put, List.setIfInBounds_toArray, List.set_cons_zero, List.set_cons_succ]
          refine wpAnyH_take (i := 3) (oi := { dst := some 88, op := Op.move (Operand.tmp 9), type := 3, pos := "law.go:101", after := #[{ on := 2, ground := Ground.guard }], guard := some (2, false) }) (v := ?_) rfl (by kernel_rfl) (by kernel_rfl) (by kernel_rfl) (fun _ _ _ h => h) (Or.inl ⟨by rfl, ?_⟩) E0.out ?_
          rotate_left
          · (intro w1 hS; go_simp; try with_reducible rfl)
          simp only [Act.put, List.setIfInBounds_toArray, List.set_cons_zero, List.set_cons_succ]
          refine wpAnyH_take (i := 4) (oi := { dst := some 89, op := Op.move (Operand.tmp 14), type := 3, pos := "law.go:101", after := #[{ on := 2, ground := Ground.guard }], guard := some (2, false) }) (v := ?_) rfl (by kernel_rfl) (by kernel_rfl) (by kernel_rfl) (fun _ _ _ h => h) (Or.inl ⟨by rfl, ?_⟩) E0.out ?_
          rotate_left
          · (intro w1 hS; go_simp; try with_reducible rfl)
          simp only [Act.put, List.setIfInBounds_toArray, List.set_cons_zero, List.set_cons_succ]
          refine wpAnyH_take (i := 5) (oi := { dst := some 90, op := Op.binOp BinOp.neq 3 (Operand.tmp 88) (Operand.tmp 89) 3, type := 4, pos := "law.go:101", after := #[{ on := 3, ground := Ground.data }, { on := 4, ground := Ground.data }, { on := 2, ground := Ground.guard }], guard := some (2, false) }) (v := ?_) rfl (by kernel_rfl) (by kernel_rfl) (by kernel_rfl) (fun _ _ _ h => h) (Or.inl ⟨by rfl, ?_⟩) E0.out ?_
          rotate_left
          · (intro w1 hS; go_simp; try with_reducible rfl)
          simp only [Act.put, List.setIfInBounds_toArray, List.set_cons_zero, List.set_cons_succ]
          refine wpAnyH_take (i := 6) (oi := { dst := some 91, op := Op.pick (Operand.tmp 87) (Operand.const (Value.bool true)) (Operand.tmp 90), type := 4, pos := "law.go:101", after := #[{ on := 2, ground := Ground.data }, { on := 5, ground := Ground.data }], guard := none }) (v := ?_) rfl (by kernel_rfl) (by kernel_rfl) (by kernel_rfl) (fun _ _ _ h => h) (Or.inl ⟨by rfl, ?_⟩) E0.out ?_
          rotate_left
          · (intro w1 hS; go_simp; try with_reducible rfl)
          simp only [Act.put, List.setIfInBounds_toArray, List.set_cons_zero, List.set_cons_succ]
          refine wpAnyH_take (i := 7) (oi := { dst := some 92, op := Op.move (Operand.tmp 91), type := 4, pos := "law.go:101", after := #[{ on := 6, ground := Ground.data }, { on := 2, ground := Ground.chain }], guard := none }) (v := ?_) rfl (by kernel_rfl) (by kernel_rfl) (by kernel_rfl) (fun _ _ _ h => h) (Or.inl ⟨by rfl, ?_⟩) E0.out ?_
          rotate_left
          · (intro w1 hS; go_simp; try with_reducible rfl)
          simp only [Act.put, List.setIfInBounds_toArray, List.set_cons_zero, List.set_cons_succ]
          refine wpAnyH_take (i := 8) (oi := { dst := some 93, op := Op.move (Operand.tmp 10), type := 23, pos := "law.go:101", after := #[{ on := 7, ground := Ground.guard }], guard := some (7, false) }) (v := ?_) rfl (by kernel_rfl) (by kernel_rfl) (by kernel_rfl) (fun _ _ _ h => h) (Or.inl ⟨by rfl, ?_⟩) E0.out ?_
          rotate_left
          · (intro w1 hS; go_simp; try with_reducible rfl)
          simp only [Act.put, List.setIfInBounds_toArray, List.set_cons_zero, List.set_cons_succ]
          refine wpAnyH_take (i := 9) (oi := { dst := some 94, op := Op.move (Operand.tmp 0), type := 23, pos := "law.go:101", after := #[{ on := 7, ground := Ground.guard }], guard := some (7, false) }) (v := ?_) rfl (by kernel_rfl) (by kernel_rfl) (by kernel_rfl) (fun _ _ _ h => h) (Or.inl ⟨by rfl, ?_⟩) E0.out ?_
          rotate_left
          · (intro w1 hS; go_simp; try with_reducible rfl)
          simp only [Act.put, List.setIfInBounds_toArray, List.set_cons_zero, List.set_cons_succ]
          refine wpAnyH_take (i := 10) (oi := { dst := some 95, op := Op.binOp BinOp.neq 23 (Operand.tmp 93) (Operand.tmp 94) 23, type := 4, pos := "law.go:101", after := #[{ on := 8, ground := Ground.data }, { on := 9, ground := Ground.data }, { on := 7, ground := Ground.guard }], guard := some (7, false) }) (v := ?_) rfl (by kernel_rfl) (by kernel_rfl) (by kernel_rfl) (fun _ _ _ h => h) (Or.inl ⟨by rfl, ?_⟩) E0.out ?_
          rotate_left
          · (intro w1 hS; go_simp; try with_reducible rfl)
          simp only [Act.put, List.setIfInBounds_toArray, List.set_cons_zero, List.set_cons_succ]
          refine wpAnyH_take (i := 11) (oi := { dst := some 96, op := Op.pick (Operand.tmp 92) (Operand.const (Value.bool true)) (Operand.tmp 95), type := 4, pos := "law.go:101", after := #[{ on := 7, ground := Ground.data }, { on := 10, ground := Ground.data }], guard := none }) (v := ?_) rfl (by kernel_rfl) (by kernel_rfl) (by kernel_rfl) (fun _ _ _ h => h) (Or.inl ⟨by rfl, ?_⟩) E0.out ?_
          rotate_left
          · (intro w1 hS; go_simp; try with_reducible rfl)
          simp only [Act.put, List.setIfInBounds_toArray, List.set_cons_zero, List.set_cons_succ]
          refine wpAnyH_take (i := 12) (oi := { dst := some 97, op := Op.move (Operand.tmp 96), type := 4, pos := "law.go:101", after := #[{ on := 11, ground := Ground.data }, { on := 7, ground := Ground.chain }], guard := none }) (v := ?_) rfl (by kernel_rfl) (by kernel_rfl) (by kernel_rfl) (fun _ _ _ h => h) (Or.inl ⟨by rfl, ?_⟩) E0.out ?_
          rotate_left
          · (intro w1 hS; go_simp; try with_reducible rfl)
          simp only [Act.put, List.setIfInBounds_toArray, List.set_cons_zero, List.set_cons_succ]
          refine wpAnyH_take (i := 13) (oi := { dst := some 98, op := Op.move (Operand.tmp 13), type := 22, pos := "law.go:101", after := #[{ on := 12, ground := Ground.guard }], guard := some (12, false) }) (v := ?_) rfl (by kernel_rfl) (by kernel_rfl) (by kernel_rfl) (fun _ _ _ h => h) (Or.inl ⟨by rfl, ?_⟩) E0.out ?_
          rotate_left
          · (intro w1 hS; go_simp; try with_reducible rfl)
          simp only [Act.put, List.setIfInBounds_toArray, List.set_cons_zero, List.set_cons_succ]
          refine wpAnyH_take (i := 14) (oi := { dst := some 99, op := Op.call { callee := Callee.builtin Builtin.len, args := #[Operand.tmp 98], argTypes := #[22] }, type := 3, pos := "law.go:101", after := #[{ on := 13, ground := Ground.data }, { on := 12, ground := Ground.guard }], guard := some (12, false) }) (v := ?_) rfl (by kernel_rfl) (by kernel_rfl) (by kernel_rfl) (fun _ _ _ h => h) (Or.inl ⟨by rfl, ?_⟩) E0.out ?_
          rotate_left
          · (intro w1 hS; go_simp; try with_reducible rfl)
          simp only [Act.put, List.setIfInBounds_toArray, List.set_cons_zero, List.set_cons_succ]
          refine wpAnyH_take (i := 15) (oi := { dst := some 100, op := Op.move (Operand.tmp 14), type := 3, pos := "law.go:101", after := #[{ on := 12, ground := Ground.guard }], guard := some (12, false) }) (v := ?_) rfl (by kernel_rfl) (by kernel_rfl) (by kernel_rfl) (fun _ _ _ h => h) (Or.inl ⟨by rfl, ?_⟩) E0.out ?_
          rotate_left
          · (intro w1 hS; go_simp; try with_reducible rfl)
          simp only [Act.put, List.setIfInBounds_toArray, List.set_cons_zero, List.set_cons_succ]
          refine wpAnyH_take (i := 16) (oi := { dst := some 101, op := Op.binOp BinOp.neq 3 (Operand.tmp 99) (Operand.tmp 100) 3, type := 4, pos := "law.go:101", after := #[{ on := 14, ground := Ground.data }, { on := 15, ground := Ground.data }, { on := 12, ground := Ground.guard }], guard := some (12, false) }) (v := ?_) rfl (by kernel_rfl) (by kernel_rfl) (by kernel_rfl) (fun _ _ _ h => h) (Or.inl ⟨by rfl, ?_⟩) E0.out ?_
          rotate_left
          · (intro w1 hS; go_simp; try with_reducible rfl)
          simp only [Act.put, List.setIfInBounds_toArray, List.set_cons_zero, List.set_cons_succ]
          refine wpAnyH_take (i := 17) (oi := { dst := some 102, op := Op.pick (Operand.tmp 97) (Operand.const (Value.bool true)) (Operand.tmp 101), type := 4, pos := "law.go:101", after := #[{ on := 12, ground := Ground.data }, { on := 16, ground := Ground.data }], guard := none }) (v := ?_) rfl (by kernel_rfl) (by kernel_rfl) (by kernel_rfl) (fun _ _ _ h => h) (Or.inl ⟨by rfl, ?_⟩) E0.out ?_
          rotate_left
          · (intro w1 hS; go_simp; try with_reducible rfl)
          simp only [Act.put, List.setIfInBounds_toArray, List.set_cons_zero, List.set_cons_succ]
          refine wpAnyH_take (i := 18) (oi := { dst := some 103, op := Op.move (Operand.tmp 102), type := 4, pos := "law.go:101", after := #[{ on := 17, ground := Ground.data }, { on := 12, ground := Ground.chain }], guard := none }) (v := ?_) rfl (by kernel_rfl) (by kernel_rfl) (by kernel_rfl) (fun _ _ _ h => h) (Or.inl ⟨by rfl, ?_⟩) E0.out ?_
          rotate_left
          · (intro w1 hS; go_simp; try with_reducible rfl)
          simp only [Act.put, List.setIfInBounds_toArray, List.set_cons_zero, List.set_cons_succ]
          refine wpAnyH_take (i := 19) (oi := { dst := some 104, op := Op.move (Operand.tmp 13), type := 22, pos := "law.go:101", after := #[{ on := 18, ground := Ground.guard }], guard := some (18, false) }) (v := ?_) rfl (by kernel_rfl) (by kernel_rfl) (by kernel_rfl) (fun _ _ _ h => h) (Or.inl ⟨by rfl, ?_⟩) E0.out ?_
          rotate_left
          · (intro w1 hS; go_simp; try with_reducible rfl)
          simp only [Act.put, List.setIfInBounds_toArray, List.set_cons_zero, List.set_cons_succ]
          refine wpAnyH_take (i := 20) (oi := { dst := some 105, op := Op.move (Operand.tmp 14), type := 3, pos := "law.go:101", after := #[{ on := 18, ground := Ground.guard }], guard := some (18, false) }) (v := ?_) rfl (by kernel_rfl) (by kernel_rfl) (by kernel_rfl) (fun _ _ _ h => h) (Or.inl ⟨by rfl, ?_⟩) E0.out ?_
          rotate_left
          · (intro w1 hS; go_simp; try with_reducible rfl)
          simp only [Act.put, List.setIfInBounds_toArray, List.set_cons_zero, List.set_cons_succ]
          refine wpAnyH_take (i := 21) (oi := { dst := some 106, op := Op.binOp BinOp.sub 3 (Operand.tmp 105) (Operand.const (Value.int IntKind.i64 2)) 3, type := 3, pos := "law.go:101", after := #[{ on := 20, ground := Ground.data }, { on := 18, ground := Ground.guard }], guard := some (18, false) }) (v := ?_) rfl (by kernel_rfl) (by kernel_rfl) (by kernel_rfl) (fun _ _ _ h => h) (Or.inl ⟨by rfl, ?_⟩) E0.out ?_
          rotate_left
          · (intro w1 hS; go_simp; try with_reducible rfl)
          simp only [Act.put, List.setIfInBounds_toArray, List.set_cons_zero, List.set_cons_succ]
          refine wpAnyH_take (i := 22) (oi := { dst := some 107, op := Op.slice 22 (Operand.tmp 104) none (some (Operand.tmp 106)) none, type := 22, pos := "law.go:101", after := #[{ on := 19, ground := Ground.data }, { on := 21, ground := Ground.data }, { on := 18, ground := Ground.guard }], guard := some (18, false) }) (v := ?_) rfl (by kernel_rfl) (by kernel_rfl) (by kernel_rfl) (fun _ _ _ h => h) (Or.inl ⟨by rfl, ?_⟩) E0.out ?_
          rotate_left
          · (intro w1 hS; have hW := hS; have q : (16 : Int) ≤ (c7 : Int) := (by omega); clear hW hS; go_simp; try with_reducible rfl)
          simp only [Act.put, List.setIfInBounds_toArray, List.set_cons_zero, List.set_cons_succ]
          refine wpAnyH_take (i := 23) (oi := { dst := some 108, op := Op.convert 22 9 (Operand.tmp 107), type := 9, pos := "law.go:101", after := #[{ on := 22, ground := Ground.data }, { on := 18, ground := Ground.guard }], guard := some (18, false) }) (v := ?_) rfl (by kernel_rfl) (by kernel_rfl) (by kernel_rfl) (fun _ _ _ h => h) (Or.inl ⟨by rfl, ?_⟩) E0.out ?_
          rotate_left
          · (intro w1 hS; have hW := hS; have q := HCX.out w1 hW; clear hW hS; go_simp; try with_reducible rfl)
          simp only [Act.put, List.setIfInBounds_toArray, List.set_cons_zero, List.set_cons_succ]
          refine wpAnyH_take (i := 24) (oi := { dst := some 109, op := Op.move (Operand.tmp 7), type := 22, pos := "law.go:101", after := #[{ on := 18, ground := Ground.guard }], guard := some (18, false) }) (v := ?_) rfl (by kernel_rfl) (by kernel_rfl) (by kernel_rfl) (fun _ _ _ h => h) (Or.inl ⟨by rfl, ?_⟩) E0.out ?_
          rotate_left
          · (intro w1 hS; go_simp; try with_reducible rfl)
          simp only [Act.put, List.setIfInBounds_toArray, List.set_cons_zero, List.set_cons_succ]
          refine wpAnyH_take (i := 25) (oi := { dst := some 110, op := Op.move (Operand.tmp 14), type := 3, pos := "law.go:101", after := #[{ on := 18, ground := Ground.guard }], guard := some (18, false) }) (v := ?_) rfl (by kernel_rfl) (by kernel_rfl) (by kernel_rfl) (fun _ _ _ h => h) (Or.inl ⟨by rfl, ?_⟩) E0.out ?_
          rotate_left
          · (intro w1 hS; go_simp; try with_reducible rfl)
          simp only [Act.put, List.setIfInBounds_toArray, List.set_cons_zero, List.set_cons_succ]
          refine wpAnyH_take (i := 26) (oi := { dst := some 111, op := Op.binOp BinOp.sub 3 (Operand.tmp 110) (Operand.const (Value.int IntKind.i64 2)) 3, type := 3, pos := "law.go:101", after := #[{ on := 25, ground := Ground.data }, { on := 18, ground := Ground.guard }], guard := some (18, false) }) (v := ?_) rfl (by kernel_rfl) (by kernel_rfl) (by kernel_rfl) (fun _ _ _ h => h) (Or.inl ⟨by rfl, ?_⟩) E0.out ?_
          rotate_left
          · (intro w1 hS; go_simp; try with_reducible rfl)
          simp only [Act.put, List.setIfInBounds_toArray, List.set_cons_zero, List.set_cons_succ]
          refine wpAnyH_take (i := 27) (oi := { dst := some 112, op := Op.slice 22 (Operand.tmp 109) none (some (Operand.tmp 111)) none, type := 22, pos := "law.go:101", after := #[{ on := 24, ground := Ground.data }, { on := 26, ground := Ground.data }, { on := 18, ground := Ground.guard }], guard := some (18, false) }) (v := ?_) rfl (by kernel_rfl) (by kernel_rfl) (by kernel_rfl) (fun _ _ _ h => h) (Or.inl ⟨by rfl, ?_⟩) E0.out ?_
          rotate_left
          · (intro w1 hS; have hW := hS; have q : (16 : Int) ≤ (c5 : Int) := (by omega); clear hW hS; go_simp; try with_reducible rfl)
          simp only [Act.put, List.setIfInBounds_toArray, List.set_cons_zero, List.set_cons_succ]
          refine wpAnyH_take (i := 28) (oi := { dst := some 113, op := Op.convert 22 9 (Operand.tmp 112), type := 9, pos := "law.go:101", after := #[{ on := 27, ground := Ground.data }, { on := 18, ground := Ground.guard }], guard := some (18, false) }) (v := ?_) rfl (by kernel_rfl) (by kernel_rfl) (by kernel_rfl) (fun _ _ _ h => h) (Or.inl ⟨by rfl, ?_⟩) E0.out ?_
          rotate_left
          · (intro w1 hS; have hW := hS; have q := HCZ.out w1 hW; clear hW hS; go_simp; try with_reducible rfl)
          simp only [Act.put, List.setIfInBounds_toArray, List.set_cons_zero, List.set_cons_succ]
          refine wpAnyH_take (i := 29) (oi := { dst := some 114, op := Op.binOp BinOp.neq 9 (Operand.tmp 108) (Operand.tmp 113) 9, type := 4, pos := "law.go:101", after := #[{ on := 23, ground := Ground.data }, { on := 28, ground := Ground.data }, { on := 18, ground := Ground.guard }], guard := some (18, false) }) (v := ?_) rfl (by kernel_rfl) (by kernel_rfl) (by kernel_rfl) (fun _ _ _ h => h) (Or.inl ⟨by rfl, ?_⟩) E0.out ?_
          rotate_left
          · (intro w1 hS; go_simp; try with_reducible rfl)
          simp only [Act.put, List.setIfInBounds_toArray, List.set_cons_zero, List.set_cons_succ]
          refine wpAnyH_take (i := 30) (oi := { dst := some 115, op := Op.pick (Operand.tmp 103) (Operand.const (Value.bool true)) (Operand.tmp 114), type := 4, pos := "law.go:101", after := #[{ on := 18, ground := Ground.data }, { on := 29, ground := Ground.data }], guard := none }) (v := ?_) rfl (by kernel_rfl) (by kernel_rfl) (by kernel_rfl) (fun _ _ _ h => h) (Or.inl ⟨by rfl, ?_⟩) E0.out ?_
          rotate_left
          · (intro w1 hS; go_simp; try with_reducible rfl)
          simp only [Act.put, List.setIfInBounds_toArray, List.set_cons_zero, List.set_cons_succ]
          refine wpAnyH_done (by kernel_rfl) ?_ _
          go_wp2_with fail
          refine (NX.out _ E0.out).mono ?_; rintro e w' ⟨rfl, rfl⟩
          go_wp2_with fail
          refine (awake_any _).mono ?_
          rintro e w9 ⟨rfl, hb⟩
          have B9 := Lib.hid ((B6.out.trans (E0.out.mono B6.out.size)).trans (hb.mono (B6.out.trans (E0.out.mono B6.out.size)).size))
          clear hb E0 B6
          go_wp2
          go_ret
          exact ⟨rfl, B9.out⟩
        · go_wp2_with fail
          refine wp_region_held (S := (fun w' : World => Below W.heap.size W w')) (by kernel_rfl) ?_
          change wpAnyH _ _ _ _ _ _ _ _ W.drew
          have hE0 : Below W.heap.size W W.drew := (Below.refl _ _).drew
          generalize W.drew = Y0 at hE0 ⊢
          have E0 := Lib.hid hE0
          clear hE0
          refine wpAnyH_take (i := 0) (oi := { dst := some 85, op := Op.move (Operand.tmp 11), type := 3, pos := "law.go:101", after := #[], guard := none }) (v := ?_) rfl (by kernel_rfl) (by kernel_rfl) (by kernel_rfl) (fun _ _ _ h => h) (Or.inl ⟨by rfl, ?_⟩) E0.out ?_
          rotate_left
          · (intro w1 hS; go_simp; try with_reducible rfl)
          simp only [Act.put, List.setIfInBounds_toArray, List.set_cons_zero, List.set_cons_succ]
          refine wpAnyH_take (i := 1) (oi := { dst := some 86, op := Op.binOp BinOp.neq 3 (Operand.tmp 85) (Operand.const (Value.int IntKind.i64 0)) 3, type := 4, pos := "law.go:101", after := #[{ on := 0, ground := Ground.data }], guard := none }) (v := ?_) rfl (by kernel_rfl) (by kernel_rfl) (by kernel_rfl) (fun _ _ _ h => h) (Or.inl ⟨by rfl, ?_⟩) E0.out ?_
          rotate_left
          · (intro w1 hS; go_simp; try with_reducible rfl)
          simp only [Act.put, List.setIfInBounds_toArray, List.set_cons_zero, List.set_cons_succ]
          refine wpAnyH_take (i := 2) (oi := { dst := some 87, op := Op.move (Operand.tmp 86), type := 4, pos := "law.go:101", after := #[{ on := 1, ground := Ground.data }], guard := none }) (v := ?_) rfl (by kernel_rfl) (by kernel_rfl) (by kernel_rfl) (fun _ _ _ h => h) (Or.inl ⟨by rfl, ?_⟩) E0.out ?_
          rotate_left
          · (intro w1 hS; go_simp; try with_reducible rfl)
          simp only [Act.put, List.setIfInBounds_toArray, List.set_cons_zero, List.set_cons_succ]
          refine wpAnyH_take (i := 3) (oi := { dst := some 88, op := Op.move (Operand.tmp 9), type := 3, pos := "law.go:101", after := #[{ on := 2, ground := Ground.guard }], guard := some (2, false) }) (v := ?_) rfl (by kernel_rfl) (by kernel_rfl) (by kernel_rfl) (fun _ _ _ h => h) (Or.inl ⟨by rfl, ?_⟩) E0.out ?_
          rotate_left
          · (intro w1 hS; go_simp; try with_reducible rfl)
          simp only [Act.put, List.setIfInBounds_toArray, List.set_cons_zero, List.set_cons_succ]
          refine wpAnyH_take (i := 4) (oi := { dst := some 89, op := Op.move (Operand.tmp 14), type := 3, pos := "law.go:101", after := #[{ on := 2, ground := Ground.guard }], guard := some (2, false) }) (v := ?_) rfl (by kernel_rfl) (by kernel_rfl) (by kernel_rfl) (fun _ _ _ h => h) (Or.inl ⟨by rfl, ?_⟩) E0.out ?_
          rotate_left
          · (intro w1 hS; go_simp; try with_reducible rfl)
          simp only [Act.put, List.setIfInBounds_toArray, List.set_cons_zero, List.set_cons_succ]
          refine wpAnyH_take (i := 5) (oi := { dst := some 90, op := Op.binOp BinOp.neq 3 (Operand.tmp 88) (Operand.tmp 89) 3, type := 4, pos := "law.go:101", after := #[{ on := 3, ground := Ground.data }, { on := 4, ground := Ground.data }, { on := 2, ground := Ground.guard }], guard := some (2, false) }) (v := ?_) rfl (by kernel_rfl) (by kernel_rfl) (by kernel_rfl) (fun _ _ _ h => h) (Or.inl ⟨by rfl, ?_⟩) E0.out ?_
          rotate_left
          · (intro w1 hS; go_simp; try with_reducible rfl)
          simp only [Act.put, List.setIfInBounds_toArray, List.set_cons_zero, List.set_cons_succ]
          refine wpAnyH_take (i := 6) (oi := { dst := some 91, op := Op.pick (Operand.tmp 87) (Operand.const (Value.bool true)) (Operand.tmp 90), type := 4, pos := "law.go:101", after := #[{ on := 2, ground := Ground.data }, { on := 5, ground := Ground.data }], guard := none }) (v := ?_) rfl (by kernel_rfl) (by kernel_rfl) (by kernel_rfl) (fun _ _ _ h => h) (Or.inl ⟨by rfl, ?_⟩) E0.out ?_
          rotate_left
          · (intro w1 hS; go_simp; try with_reducible rfl)
          simp only [Act.put, List.setIfInBounds_toArray, List.set_cons_zero, List.set_cons_succ]
          refine wpAnyH_take (i := 7) (oi := { dst := some 92, op := Op.move (Operand.tmp 91), type := 4, pos := "law.go:101", after := #[{ on := 6, ground := Ground.data }, { on := 2, ground := Ground.chain }], guard := none }) (v := ?_) rfl (by kernel_rfl) (by kernel_rfl) (by kernel_rfl) (fun _ _ _ h => h) (Or.inl ⟨by rfl, ?_⟩) E0.out ?_
          rotate_left
          · (intro w1 hS; go_simp; try with_reducible rfl)
          simp only [Act.put, List.setIfInBounds_toArray, List.set_cons_zero, List.set_cons_succ]
          refine wpAnyH_take (i := 8) (oi := { dst := some 93, op := Op.move (Operand.tmp 10), type := 23, pos := "law.go:101", after := #[{ on := 7, ground := Ground.guard }], guard := some (7, false) }) (v := ?_) rfl (by kernel_rfl) (by kernel_rfl) (by kernel_rfl) (fun _ _ _ h => h) (Or.inl ⟨by rfl, ?_⟩) E0.out ?_
          rotate_left
          · (intro w1 hS; go_simp; try with_reducible rfl)
          simp only [Act.put, List.setIfInBounds_toArray, List.set_cons_zero, List.set_cons_succ]
          refine wpAnyH_take (i := 9) (oi := { dst := some 94, op := Op.move (Operand.tmp 0), type := 23, pos := "law.go:101", after := #[{ on := 7, ground := Ground.guard }], guard := some (7, false) }) (v := ?_) rfl (by kernel_rfl) (by kernel_rfl) (by kernel_rfl) (fun _ _ _ h => h) (Or.inl ⟨by rfl, ?_⟩) E0.out ?_
          rotate_left
          · (intro w1 hS; go_simp; try with_reducible rfl)
          simp only [Act.put, List.setIfInBounds_toArray, List.set_cons_zero, List.set_cons_succ]
          refine wpAnyH_take (i := 10) (oi := { dst := some 95, op := Op.binOp BinOp.neq 23 (Operand.tmp 93) (Operand.tmp 94) 23, type := 4, pos := "law.go:101", after := #[{ on := 8, ground := Ground.data }, { on := 9, ground := Ground.data }, { on := 7, ground := Ground.guard }], guard := some (7, false) }) (v := ?_) rfl (by kernel_rfl) (by kernel_rfl) (by kernel_rfl) (fun _ _ _ h => h) (Or.inl ⟨by rfl, ?_⟩) E0.out ?_
          rotate_left
          · (intro w1 hS; go_simp; try with_reducible rfl)
          simp only [Act.put, List.setIfInBounds_toArray, List.set_cons_zero, List.set_cons_succ]
          refine wpAnyH_take (i := 11) (oi := { dst := some 96, op := Op.pick (Operand.tmp 92) (Operand.const (Value.bool true)) (Operand.tmp 95), type := 4, pos := "law.go:101", after := #[{ on := 7, ground := Ground.data }, { on := 10, ground := Ground.data }], guard := none }) (v := ?_) rfl (by kernel_rfl) (by kernel_rfl) (by kernel_rfl) (fun _ _ _ h => h) (Or.inl ⟨by rfl, ?_⟩) E0.out ?_
          rotate_left
          · (intro w1 hS; go_simp; try with_reducible rfl)
          simp only [Act.put, List.setIfInBounds_toArray, List.set_cons_zero, List.set_cons_succ]
          refine wpAnyH_take (i := 12) (oi := { dst := some 97, op := Op.move (Operand.tmp 96), type := 4, pos := "law.go:101", after := #[{ on := 11, ground := Ground.data }, { on := 7, ground := Ground.chain }], guard := none }) (v := ?_) rfl (by kernel_rfl) (by kernel_rfl) (by kernel_rfl) (fun _ _ _ h => h) (Or.inl ⟨by rfl, ?_⟩) E0.out ?_
          rotate_left
          · (intro w1 hS; go_simp; try with_reducible rfl)
          simp only [Act.put, List.setIfInBounds_toArray, List.set_cons_zero, List.set_cons_succ]
          refine wpAnyH_take (i := 13) (oi := { dst := some 98, op := Op.move (Operand.tmp 13), type := 22, pos := "law.go:101", after := #[{ on := 12, ground := Ground.guard }], guard := some (12, false) }) (v := ?_) rfl (by kernel_rfl) (by kernel_rfl) (by kernel_rfl) (fun _ _ _ h => h) (Or.inl ⟨by rfl, ?_⟩) E0.out ?_
          rotate_left
          · (intro w1 hS; go_simp; try with_reducible rfl)
          simp only [Act.put, List.setIfInBounds_toArray, List.set_cons_zero, List.set_cons_succ]
          refine wpAnyH_take (i := 14) (oi := { dst := some 99, op := Op.call { callee := Callee.builtin Builtin.len, args := #[Operand.tmp 98], argTypes := #[22] }, type := 3, pos := "law.go:101", after := #[{ on := 13, ground := Ground.data }, { on := 12, ground := Ground.guard }], guard := some (12, false) }) (v := ?_) rfl (by kernel_rfl) (by kernel_rfl) (by kernel_rfl) (fun _ _ _ h => h) (Or.inl ⟨by rfl, ?_⟩) E0.out ?_
          rotate_left
          · (intro w1 hS; go_simp; try with_reducible rfl)
          simp only [Act.put, List.setIfInBounds_toArray, List.set_cons_zero, List.set_cons_succ]
          refine wpAnyH_take (i := 15) (oi := { dst := some 100, op := Op.move (Operand.tmp 14), type := 3, pos := "law.go:101", after := #[{ on := 12, ground := Ground.guard }], guard := some (12, false) }) (v := ?_) rfl (by kernel_rfl) (by kernel_rfl) (by kernel_rfl) (fun _ _ _ h => h) (Or.inl ⟨by rfl, ?_⟩) E0.out ?_
          rotate_left
          · (intro w1 hS; go_simp; try with_reducible rfl)
          simp only [Act.put, List.setIfInBounds_toArray, List.set_cons_zero, List.set_cons_succ]
          refine wpAnyH_take (i := 16) (oi := { dst := some 101, op := Op.binOp BinOp.neq 3 (Operand.tmp 99) (Operand.tmp 100) 3, type := 4, pos := "law.go:101", after := #[{ on := 14, ground := Ground.data }, { on := 15, ground := Ground.data }, { on := 12, ground := Ground.guard }], guard := some (12, false) }) (v := ?_) rfl (by kernel_rfl) (by kernel_rfl) (by kernel_rfl) (fun _ _ _ h => h) (Or.inl ⟨by rfl, ?_⟩) E0.out ?_
          rotate_left
          · (intro w1 hS; go_simp; try with_reducible rfl)
          simp only [Act.put, List.setIfInBounds_toArray, List.set_cons_zero, List.set_cons_succ]
          refine wpAnyH_take (i := 17) (oi := { dst := some 102, op := Op.pick (Operand.tmp 97) (Operand.const (Value.bool true)) (Operand.tmp 101), type := 4, pos := "law.go:101", after := #[{ on := 12, ground := Ground.data }, { on := 16, ground := Ground.data }], guard := none }) (v := ?_) rfl (by kernel_rfl) (by kernel_rfl) (by kernel_rfl) (fun _ _ _ h => h) (Or.inl ⟨by rfl, ?_⟩) E0.out ?_
          rotate_left
          · (intro w1 hS; go_simp; try with_reducible rfl)
          simp only [Act.put, List.setIfInBounds_toArray, List.set_cons_zero, List.set_cons_succ]
          refine wpAnyH_take (i := 18) (oi := { dst := some 103, op := Op.move (Operand.tmp 102), type := 4, pos := "law.go:101", after := #[{ on := 17, ground := Ground.data }, { on := 12, ground := Ground.chain }], guard := none }) (v := ?_) rfl (by kernel_rfl) (by kernel_rfl) (by kernel_rfl) (fun _ _ _ h => h) (Or.inl ⟨by rfl, ?_⟩) E0.out ?_
          rotate_left
          · (intro w1 hS; go_simp; try with_reducible rfl)
          simp only [Act.put, List.setIfInBounds_toArray, List.set_cons_zero, List.set_cons_succ]
          refine wpAnyH_take (i := 19) (oi := { dst := some 104, op := Op.move (Operand.tmp 13), type := 22, pos := "law.go:101", after := #[{ on := 18, ground := Ground.guard }], guard := some (18, false) }) (v := ?_) rfl (by kernel_rfl) (by kernel_rfl) (by kernel_rfl) (fun _ _ _ h => h) (Or.inl ⟨by rfl, ?_⟩) E0.out ?_
          rotate_left
          · (intro w1 hS; go_simp; try with_reducible rfl)
          simp only [Act.put, List.setIfInBounds_toArray, List.set_cons_zero, List.set_cons_succ]
          refine wpAnyH_take (i := 20) (oi := { dst := some 105, op := Op.move (Operand.tmp 14), type := 3, pos := "law.go:101", after := #[{ on := 18, ground := Ground.guard }], guard := some (18, false) }) (v := ?_) rfl (by kernel_rfl) (by kernel_rfl) (by kernel_rfl) (fun _ _ _ h => h) (Or.inl ⟨by rfl, ?_⟩) E0.out ?_
          rotate_left
          · (intro w1 hS; go_simp; try with_reducible rfl)
          simp only [Act.put, List.setIfInBounds_toArray, List.set_cons_zero, List.set_cons_succ]
          refine wpAnyH_take (i := 21) (oi := { dst := some 106, op := Op.binOp BinOp.sub 3 (Operand.tmp 105) (Operand.const (Value.int IntKind.i64 2)) 3, type := 3, pos := "law.go:101", after := #[{ on := 20, ground := Ground.data }, { on := 18, ground := Ground.guard }], guard := some (18, false) }) (v := ?_) rfl (by kernel_rfl) (by kernel_rfl) (by kernel_rfl) (fun _ _ _ h => h) (Or.inl ⟨by rfl, ?_⟩) E0.out ?_
          rotate_left
          · (intro w1 hS; go_simp; try with_reducible rfl)
          simp only [Act.put, List.setIfInBounds_toArray, List.set_cons_zero, List.set_cons_succ]
          refine wpAnyH_take (i := 22) (oi := { dst := some 107, op := Op.slice 22 (Operand.tmp 104) none (some (Operand.tmp 106)) none, type := 22, pos := "law.go:101", after := #[{ on := 19, ground := Ground.data }, { on := 21, ground := Ground.data }, { on := 18, ground := Ground.guard }], guard := some (18, false) }) (v := ?_) rfl (by kernel_rfl) (by kernel_rfl) (by kernel_rfl) (fun _ _ _ h => h) (Or.inl ⟨by rfl, ?_⟩) E0.out ?_
          rotate_left
          · (intro w1 hS; have hW := hS; have q : (16 : Int) ≤ (c7 : Int) := (by omega); clear hW hS; go_simp; try with_reducible rfl)
          simp only [Act.put, List.setIfInBounds_toArray, List.set_cons_zero, List.set_cons_succ]
          refine wpAnyH_take (i := 23) (oi := { dst := some 108, op := Op.convert 22 9 (Operand.tmp 107), type := 9, pos := "law.go:101", after := #[{ on := 22, ground := Ground.data }, { on := 18, ground := Ground.guard }], guard := some (18, false) }) (v := ?_) rfl (by kernel_rfl) (by kernel_rfl) (by kernel_rfl) (fun _ _ _ h => h) (Or.inl ⟨by rfl, ?_⟩) E0.out ?_
          rotate_left
          · (intro w1 hS; have hW := hS; have q := HCX.out w1 hW; clear hW hS; go_simp; try with_reducible rfl)
          simp only [Act.put, List.setIfInBounds_toArray, List.set_cons_zero, List.set_cons_succ]
          refine wpAnyH_take (i := 24) (oi := { dst := some 109, op := Op.move (Operand.tmp 7), type := 22, pos := "law.go:101", after := #[{ on := 18, ground := Ground.guard }], guard := some (18, false) }) (v := ?_) rfl (by kernel_rfl) (by kernel_rfl) (by kernel_rfl) (fun _ _ _ h => h) (Or.inl ⟨by rfl, ?_⟩) E0.out ?_
          rotate_left
          · (intro w1 hS; go_simp; try with_reducible rfl)
          simp only [Act.put, List.setIfInBounds_toArray, List.set_cons_zero, List.set_cons_succ]
          refine wpAnyH_take (i := 25) (oi := { dst := some 110, op := Op.move (Operand.tmp 14), type := 3, pos := "law.go:101", after := #[{ on := 18, ground := Ground.guard }], guard := some (18, false) }) (v := ?_) rfl (by kernel_rfl) (by kernel_rfl) (by kernel_rfl) (fun _ _ _ h => h) (Or.inl ⟨by rfl, ?_⟩) E0.out ?_
          rotate_left
          · (intro w1 hS; go_simp; try with_reducible rfl)
          simp only [Act.put, List.setIfInBounds_toArray, List.set_cons_zero, List.set_cons_succ]
          refine wpAnyH_take (i := 26) (oi := { dst := some 111, op := Op.binOp BinOp.sub 3 (Operand.tmp 110) (Operand.const (Value.int IntKind.i64 2)) 3, type := 3, pos := "law.go:101", after := #[{ on := 25, ground := Ground.data }, { on := 18, ground := Ground.guard }], guard := some (18, false) }) (v := ?_) rfl (by kernel_rfl) (by kernel_rfl) (by kernel_rfl) (fun _ _ _ h => h) (Or.inl ⟨by rfl, ?_⟩) E0.out ?_
          rotate_left
          · (intro w1 hS; go_simp; try with_reducible rfl)
          simp only [Act.put, List.setIfInBounds_toArray, List.set_cons_zero, List.set_cons_succ]
          refine wpAnyH_take (i := 27) (oi := { dst := some 112, op := Op.slice 22 (Operand.tmp 109) none (some (Operand.tmp 111)) none, type := 22, pos := "law.go:101", after := #[{ on := 24, ground := Ground.data }, { on := 26, ground := Ground.data }, { on := 18, ground := Ground.guard }], guard := some (18, false) }) (v := ?_) rfl (by kernel_rfl) (by kernel_rfl) (by kernel_rfl) (fun _ _ _ h => h) (Or.inl ⟨by rfl, ?_⟩) E0.out ?_
          rotate_left
          · (intro w1 hS; have hW := hS; have q : (16 : Int) ≤ (c5 : Int) := (by omega); clear hW hS; go_simp; try with_reducible rfl)
          simp only [Act.put, List.setIfInBounds_toArray, List.set_cons_zero, List.set_cons_succ]
          refine wpAnyH_take (i := 28) (oi := { dst := some 113, op := Op.convert 22 9 (Operand.tmp 112), type := 9, pos := "law.go:101", after := #[{ on := 27, ground := Ground.data }, { on := 18, ground := Ground.guard }], guard := some (18, false) }) (v := ?_) rfl (by kernel_rfl) (by kernel_rfl) (by kernel_rfl) (fun _ _ _ h => h) (Or.inl ⟨by rfl, ?_⟩) E0.out ?_
          rotate_left
          · (intro w1 hS; have hW := hS; have q := HCZ.out w1 hW; clear hW hS; go_simp; try with_reducible rfl)
          simp only [Act.put, List.setIfInBounds_toArray, List.set_cons_zero, List.set_cons_succ]
          refine wpAnyH_take (i := 29) (oi := { dst := some 114, op := Op.binOp BinOp.neq 9 (Operand.tmp 108) (Operand.tmp 113) 9, type := 4, pos := "law.go:101", after := #[{ on := 23, ground := Ground.data }, { on := 28, ground := Ground.data }, { on := 18, ground := Ground.guard }], guard := some (18, false) }) (v := ?_) rfl (by kernel_rfl) (by kernel_rfl) (by kernel_rfl) (fun _ _ _ h => h) (Or.inl ⟨by rfl, ?_⟩) E0.out ?_
          rotate_left
          · (intro w1 hS; go_simp; try with_reducible rfl)
          simp only [Act.put, List.setIfInBounds_toArray, List.set_cons_zero, List.set_cons_succ]
          refine wpAnyH_take (i := 30) (oi := { dst := some 115, op := Op.pick (Operand.tmp 103) (Operand.const (Value.bool true)) (Operand.tmp 114), type := 4, pos := "law.go:101", after := #[{ on := 18, ground := Ground.data }, { on := 29, ground := Ground.data }], guard := none }) (v := ?_) rfl (by kernel_rfl) (by kernel_rfl) (by kernel_rfl) (fun _ _ _ h => h) (Or.inl ⟨by rfl, ?_⟩) E0.out ?_
          rotate_left
          · (intro w1 hS; go_simp; try with_reducible rfl)
          simp only [Act.put, List.setIfInBounds_toArray, List.set_cons_zero, List.set_cons_succ]
          refine wpAnyH_done (by kernel_rfl) ?_ _
          go_wp2_with fail
          refine (NX.out _ E0.out).mono ?_; rintro e w' ⟨rfl, rfl⟩
          go_wp2_with fail
          refine (awake_any _).mono ?_
          rintro e w9 ⟨rfl, hb⟩
          have B9 := Lib.hid ((B6.out.trans (E0.out.mono B6.out.size)).trans (hb.mono (B6.out.trans (E0.out.mono B6.out.size)).size))
          clear hb E0 B6
          go_wp2
          go_ret
          exact ⟨rfl, B9.out⟩
      · have hne := Lib.hid (HN.out.2 hip)
        rw [hne.out] at NN
        have g1 : ((k : Int) != 2048) = true := by simp; omega
        have g2 : ((k : Int) != 34525) = true := by simp; omega
        clear hip
        go_wp2_with fail
        refine NN.out.mono ?_; rintro e w' ⟨rfl, rfl⟩
        clear NN HN
        go_wp2_with fail
        refine (with_noB _ _ 34525 _ R5.out HZ.out (by rw [hne.out]; decide)).mono ?_
        rintro e w6 ⟨rfl, hb⟩
        have B6 := Lib.hid (B5.out.trans (hb.mono B5.out.size))
        clear hb R5 B5 HZ hne
        go_wp2_with fail
        refine (awake_any _).mono ?_
        rintro e w7 ⟨rfl, hb⟩
        have B7 := Lib.hid (B6.out.trans (hb.mono B6.out.size))
        clear hb B6
        go_wp2
        go_ret
        exact ⟨rfl, B7.out⟩


theorem kinds_walk (k : Nat) (tag to : Bool) (w : World) (hk : k < 65536) :
    Calls Try.prog 6 #[.int .u16 (k : Int), .bool tag, .bool to] w fun e w' => e = .returned (.bool true) ∧ Below w.heap.size w w' := by
  cases tag <;> cases to
  · exact kinds_bare4 k w hk
  · exact kinds_bare6 k w hk
  · exact kinds_tag4 k w hk
  · exact kinds_tag6 k w hk
end Go.Proofs.Ythbkboheeelbiaa
