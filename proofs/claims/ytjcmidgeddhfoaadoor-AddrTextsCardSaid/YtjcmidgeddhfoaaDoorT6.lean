/- addr.Text of V6: groups. -/
import Derived.Test.YtjcmidgeddhfoaaDoorT4
import Derived.OrdersHeld
import Derived.Deep.RegionHeld
namespace Go.Proofs.YtjcmidgeddhfoaaDoor
open Go.RowKit Go.Lib

theorem Blk.grown {w w' : World} {g : Nat} {t : TypeId} {cs : Array Value} (h : Blk w g t cs) {row : Option Nat} (hb : w.grownBy w' row) (hg : some g ≠ row) : Blk w' g t cs := (hb.block g h.lt hg).trans h

theorem ix16 (b0 b1 b2 b3 b4 b5 b6 b7 b8 b9 b10 b11 b12 b13 b14 b15 : Nat) (k : Nat) (hk : k < 16) (W : World) :
    (Instr.index 22 (.agg #[.int .u8 (b0 : Int), .int .u8 (b1 : Int), .int .u8 (b2 : Int), .int .u8 (b3 : Int), .int .u8 (b4 : Int), .int .u8 (b5 : Int), .int .u8 (b6 : Int), .int .u8 (b7 : Int), .int .u8 (b8 : Int), .int .u8 (b9 : Int), .int .u8 (b10 : Int), .int .u8 (b11 : Int), .int .u8 (b12 : Int), .int .u8 (b13 : Int), .int .u8 (b14 : Int), .int .u8 (b15 : Int)]) (.int .i64 (k : Int))).run Tryd.prog W
      = .ok (.int .u8 (([b0, b1, b2, b3, b4, b5, b6, b7, b8, b9, b10, b11, b12, b13, b14, b15].getD k 0 : Nat) : Int)) W := by
  have h : k = 0 ∨ k = 1 ∨ k = 2 ∨ k = 3 ∨ k = 4 ∨ k = 5 ∨ k = 6 ∨ k = 7 ∨ k = 8 ∨ k = 9 ∨ k = 10 ∨ k = 11 ∨ k = 12 ∨ k = 13 ∨ k = 14 ∨ k = 15 := by omega
  rcases h with rfl | rfl | rfl | rfl | rfl | rfl | rfl | rfl | rfl | rfl | rfl | rfl | rfl | rfl | rfl | rfl <;> rfl

/-- So many signs are written ahead of round k. -/
def ln6 : Nat → Nat
  | 0 => 0
  | k + 1 => 2 * (k + 1) + k / 2
theorem ln6_succ (k : Nat) : ln6 (k + 1) = 2 * (k + 1) + k / 2 := rfl
theorem getD_small (bs : List Nat) (h : ∀ c ∈ bs, c < 256) (i : Nat) : bs.getD i 0 < 256 := by
  rw [List.getD_eq_getElem?_getD]
  by_cases hi : i < bs.length
  · rw [List.getElem?_eq_getElem hi, Option.getD_some]; exact h _ (List.getElem_mem hi)
  · rw [List.getElem?_eq_none (by omega)]; decide
theorem and15 : ∀ x : Fin 256, bits .and .u8 (x.1 : Int) 15 = ((x.1 % 16 : Nat) : Int) := by decide +kernel
theorem ln6_at (k : Nat) (h : k = 0 ∨ k % 2 ≠ 0) : ln6 k = at6 k := by
  cases k with
  | zero => rfl
  | succ k => rw [ln6_succ]; unfold at6; omega
theorem ln6_colon (k : Nat) (h0 : 0 < k) (h : k % 2 = 0) : ln6 k + 1 = at6 k := by
  cases k with
  | zero => omega
  | succ k => rw [ln6_succ]; unfold at6; omega
theorem ln6_next (k : Nat) : ln6 (k + 1) = at6 k + 2 := by rw [ln6_succ]; unfold at6; omega
theorem ln6_le (k : Nat) (h : k ≤ 16) : ln6 k ≤ 39 := by
  cases k with
  | zero => simp [ln6]
  | succ k => rw [ln6_succ]; omega
theorem text6to_two (bs : List Nat) (k : Nat) : text6to bs (at6 k + 2) = text6to bs (at6 k) ++ [hx (bs.getD k 0 / 16), hx (bs.getD k 0 % 16)] := by
  unfold text6to
  rw [show at6 k + 2 = at6 k + 1 + 1 from rfl, List.range_succ, List.range_succ]
  simp [chr6_hi, chr6_lo]
theorem text6to_colon (bs : List Nat) (k : Nat) (h0 : 0 < k) (h : k % 2 = 0) : text6to bs (at6 k) = text6to bs (ln6 k) ++ [58] := by
  have e := ln6_colon k h0 h
  rw [← e]
  unfold text6to
  rw [List.range_succ, List.map_append, List.map_singleton, show ln6 k = at6 k - 1 by omega, chr6_colon bs k h0 h]
theorem at6_le (k : Nat) (h : k < 16) : at6 k ≤ 37 := by unfold at6; omega
theorem cells_two (w : World) (t : TypeId) (u v : Value) : ∀ j x, [u, v][j]? = some x → (w.alloc (.cells #[u, v] t)).cell? ((⟨w.heap.size, 0, none⟩ : Addr).add j) = some x := by
  intro j x hx
  rw [Addr.add_mid, Nat.zero_add, (Blk.new w t #[u, v]).cell j]
  simpa using hx
theorem own_next {w : World} {base k x y z : Nat} {v : Value} {bs : List Nat} (hx' : x = bs.getD k 0) (hy : y = x / 16) (hz : z = x % 16)
    (h : w.ownsRow base 5 1 v (at6 k + 2) (Lib.byteCells (text6to bs (at6 k)) ++ [.int .u8 ((hx y).toNat : Int), .int .u8 ((hx z).toNat : Int)])) :
    w.ownsRow base 5 1 v (ln6 (k + 1)) (Lib.byteCells (text6to bs (ln6 (k + 1)))) := by
  rw [ln6_next, text6to_two, ← hx', ← hy, ← hz]
  simpa [Lib.byteCells] using h
theorem sixteen (y : Nat) (h : y < 16) : y = 0 ∨ y = 1 ∨ y = 2 ∨ y = 3 ∨ y = 4 ∨ y = 5 ∨ y = 6 ∨ y = 7 ∨ y = 8 ∨ y = 9 ∨ y = 10 ∨ y = 11 ∨ y = 12 ∨ y = 13 ∨ y = 14 ∨ y = 15 := by omega

set_option maxRecDepth 100000 in
set_option maxHeartbeats 2000000 in
theorem groups_any (b0 b1 b2 b3 b4 b5 b6 b7 b8 b9 b10 b11 b12 b13 b14 b15 : Nat) (hb : ∀ n ∈ [b0, b1, b2, b3, b4, b5, b6, b7, b8, b9, b10, b11, b12, b13, b14, b15], n < 256) (w : World) :
    Calls Tryd.prog 18 #[.agg #[.int .u8 (b0 : Int), .int .u8 (b1 : Int), .int .u8 (b2 : Int), .int .u8 (b3 : Int), .int .u8 (b4 : Int), .int .u8 (b5 : Int), .int .u8 (b6 : Int), .int .u8 (b7 : Int), .int .u8 (b8 : Int), .int .u8 (b9 : Int), .int .u8 (b10 : Int), .int .u8 (b11 : Int), .int .u8 (b12 : Int), .int .u8 (b13 : Int), .int .u8 (b14 : Int), .int .u8 (b15 : Int)]] w fun e w' =>
      e = .returned (.string ⟨(text6 [b0, b1, b2, b3, b4, b5, b6, b7, b8, b9, b10, b11, b12, b13, b14, b15]).toArray⟩) ∧ Below w.heap.size w w' := by
  obtain ⟨i0, hi, hz0, hz1, hz2⟩ := info_parts Tryd.info5
  have hix := ix16 b0 b1 b2 b3 b4 b5 b6 b7 b8 b9 b10 b11 b12 b13 b14 b15
  obtain ⟨bs, hbs⟩ : ∃ bs, bs = [b0, b1, b2, b3, b4, b5, b6, b7, b8, b9, b10, b11, b12, b13, b14, b15] := ⟨_, rfl⟩
  rw [← hbs] at hb ⊢ hix
  have HN := Lib.hid hbs
  have HB := Lib.hid hb
  have HIX := Lib.hid hix
  clear hbs hb hix
  go_enter Tryd.func18, Tryd.ntmps18
  go_wp2_with (at_make; refine wpList_make_own _ rfl _ _ 32 rfl w.heap.size 5 i0 (.int .u8 0) 1 Tryd.underlying32 hi hz0 hz1 .i64 .i64 39 39 rfl rfl rfl ?m1 ?m2 ?m3 ?_)
  case m1 => omega
  case m2 => unfold maxLen; omega
  case m3 => simp
  intro W0 hown0 hgrow0
  have hlow0 := ((Below.refl w.heap.size w).alloc (Nat.le_refl _) _).grown hgrow0 (by simp) (fun k hk => by cases hk)
  have hblk := (Blk.new w 22 #[.int .u8 (b0 : Int), .int .u8 (b1 : Int), .int .u8 (b2 : Int), .int .u8 (b3 : Int), .int .u8 (b4 : Int), .int .u8 (b5 : Int), .int .u8 (b6 : Int), .int .u8 (b7 : Int), .int .u8 (b8 : Int), .int .u8 (b9 : Int), .int .u8 (b10 : Int), .int .u8 (b11 : Int), .int .u8 (b12 : Int), .int .u8 (b13 : Int), .int .u8 (b14 : Int), .int .u8 (b15 : Int)]).grown hgrow0 (by simp)
  have HBK := Lib.hid hblk
  have HO0 := Lib.hid hown0
  have HL0 := Lib.hid hlow0
  clear hown0 hgrow0 hlow0 hblk
  go_wp2_with ((refine wpList_blk_load (op := ⟨some 7, .load 22 (.tmp 1), _, _, _, _⟩) rfl 22 (.tmp 1) rfl w.heap.size (by rfl) _ HBK.out Tryd.underlying22 rfl (by kernel_rfl) ?_))
  go_loopw [3, 8] (fun out i wr => ∃ k : Nat, k ≤ 16 ∧ i = .int .i64 k ∧ Hid (wr.ownsRow w.heap.size 5 1 out (ln6 k) (Lib.byteCells (text6to bs (ln6 k)))) ∧ Hid (Below w.heap.size w wr)) (fun _ i _ => 16 - (RowKit.intOf i).toNat)
  case atStart => exact ⟨0, by omega, rfl, Lib.hid (by simpa [ln6, text6to, Lib.byteCells] using HO0.out), HL0⟩
  case round =>
    obtain ⟨k, hk, rfl, hown, hlow⟩ := hrel
    by_cases hlt : k < 16
    · have hxi := HIX.out k hlt
      obtain ⟨x, hxx⟩ : ∃ x, x = bs.getD k 0 := ⟨_, rfl⟩
      rw [← hxx] at hxi
      have hx8 : x < 256 := by rw [hxx]; exact getD_small bs HB.out k
      have HX := Lib.hid hxx
      clear hxx
      obtain ⟨y, hy⟩ : ∃ y, y = x / 16 := ⟨_, rfl⟩
      obtain ⟨z, hz⟩ : ∃ z, z = x % 16 := ⟨_, rfl⟩
      have hy16 : y < 16 := by omega
      have hz16 : z < 16 := by omega
      have hyi : (x : Int) / 16 = (y : Int) := by omega
      have hzi : bits .and .u8 (x : Int) 15 = (z : Int) := by rw [hz]; exact and15 ⟨x, hx8⟩
      have HY := Lib.hid hy
      have HZ := Lib.hid hz
      clear hy hz
      have hlen := ln6_le k hk
      by_cases h1 : 0 < k ∧ k % 2 = 0
      · have d0 : decide ((0 : Int) < (k : Int)) = true := decide_eq_true (by omega)
        have d1 : ((k : Int) % 2 == 0) = true := beq_iff_eq.2 (by omega)
        have h0' : 0 < k := h1.1
        have hown2 := hown.out
        have hlow2 := hlow.out
        have HC := Lib.hid (And.intro (text6to_colon bs k h1.1 h1.2) (ln6_colon k h1.1 h1.2))
        clear h1
        go_wp2_with (at_builtin; refine wpList_append_own _ rfl (.tmp 19) (.tmp 20) 32 rfl w.heap.size 5 i0 (.int .u8 0) 1 1 Tryd.underlying32 hi hz0 hz1 hz2 rfl (by decide) _ _ _ rfl (hown2.alloc _) ⟨wr.heap.size, 0, none⟩ 1 1 [.int .u8 58] rfl rfl (cell_one_new _ _ _) ?c2 ?c3 ?c4 ?c5 ?_)
        case c2 => intro u hu; simp at hu; subst hu; rfl
        case c3 => unfold maxLen; omega
        case c4 => omega
        case c5 => have := hlow2.size; simp; omega
        intro v1 w1 hown1 hgrow _
        have hlow1 := (hlow2.alloc hlow2.size (Obj.cells #[Value.int IntKind.u8 58] 5)).grown hgrow (by have := hlow2.size; simp; omega) (fun k hk => (hown2.lt k hk).1)
        have hown3 : w1.ownsRow w.heap.size 5 1 v1 (at6 k) (Lib.byteCells (text6to bs (at6 k))) := by
          rw [HC.out.1, ← HC.out.2]
          simpa [Lib.byteCells] using hown1
        have HL1 := Lib.hid hlow1
        have HO1 := Lib.hid hown3
        clear hown2 hlow2 hown1 hgrow hlow1 hown3
        go_wp2_with fail
        refine wp_region_held (S := fun _ => True) (by kernel_rfl) ?_
        refine wpAnyH_take (i := 0) (oi := { dst := some 22, op := Op.move (Operand.tmp 3), type := 32, pos := "addr.go:86", after := #[], guard := none }) (v := ?_) rfl (by kernel_rfl) (by kernel_rfl) (by kernel_rfl) (fun _ _ _ h => h) (Or.inl ⟨by rfl, ?_⟩) trivial ?_
        rotate_left
        · (intro w1 _; go_simp; try with_reducible rfl)
        try simp only [Act.put, List.setIfInBounds_toArray, List.set_cons_zero, List.set_cons_succ]
        refine wpAnyH_take (i := 1) (oi := { dst := some 23, op := Op.move (Operand.tmp 5), type := 5, pos := "addr.go:86", after := #[], guard := none }) (v := ?_) rfl (by kernel_rfl) (by kernel_rfl) (by kernel_rfl) (fun _ _ _ h => h) (Or.inl ⟨by rfl, ?_⟩) trivial ?_
        rotate_left
        · (intro w1 _; go_simp; try with_reducible rfl)
        try simp only [Act.put, List.setIfInBounds_toArray, List.set_cons_zero, List.set_cons_succ]
        refine wpAnyH_take (i := 2) (oi := { dst := some 24, op := Op.binOp BinOp.shr 5 (Operand.tmp 23) (Operand.const (Value.int IntKind.u64 4)) 52, type := 5, pos := "addr.go:86", after := #[{ on := 1, ground := Ground.data }], guard := none }) (v := .int .u8 (y : Int)) rfl (by kernel_rfl) (by kernel_rfl) (by kernel_rfl) (fun _ _ _ h => h) (Or.inl ⟨by rfl, ?_⟩) trivial ?_
        · (intro w1 _; go_simp; try with_reducible rfl)
        try simp only [Act.put, List.setIfInBounds_toArray, List.set_cons_zero, List.set_cons_succ]
        refine wpAnyH_take (i := 3) (oi := { dst := some 25, op := Op.index 9 (Operand.const (Value.string { data := #[48, 49, 50, 51, 52, 53, 54, 55, 56, 57, 97, 98, 99, 100, 101, 102] })) (Operand.tmp 24), type := 5, pos := "addr.go:86", after := #[{ on := 2, ground := Ground.data }], guard := none }) (v := .int .u8 ((hx y).toNat : Int)) rfl (by kernel_rfl) (by kernel_rfl) (by kernel_rfl) (fun _ _ _ h => h) (Or.inl ⟨by rfl, ?_⟩) trivial ?_
        · (intro w1 _; rcases sixteen y (by assumption) with rfl | rfl | rfl | rfl | rfl | rfl | rfl | rfl | rfl | rfl | rfl | rfl | rfl | rfl | rfl | rfl <;> rfl)
        try simp only [Act.put, List.setIfInBounds_toArray, List.set_cons_zero, List.set_cons_succ]
        refine wpAnyH_take (i := 4) (oi := { dst := some 26, op := Op.move (Operand.tmp 5), type := 5, pos := "addr.go:86", after := #[], guard := none }) (v := ?_) rfl (by kernel_rfl) (by kernel_rfl) (by kernel_rfl) (fun _ _ _ h => h) (Or.inl ⟨by rfl, ?_⟩) trivial ?_
        rotate_left
        · (intro w1 _; go_simp; try with_reducible rfl)
        try simp only [Act.put, List.setIfInBounds_toArray, List.set_cons_zero, List.set_cons_succ]
        refine wpAnyH_take (i := 5) (oi := { dst := some 27, op := Op.binOp BinOp.and 5 (Operand.tmp 26) (Operand.const (Value.int IntKind.u8 15)) 5, type := 5, pos := "addr.go:86", after := #[{ on := 4, ground := Ground.data }], guard := none }) (v := .int .u8 (z : Int)) rfl (by kernel_rfl) (by kernel_rfl) (by kernel_rfl) (fun _ _ _ h => h) (Or.inl ⟨by rfl, ?_⟩) trivial ?_
        · (intro w1 _; go_simp; try with_reducible rfl)
        try simp only [Act.put, List.setIfInBounds_toArray, List.set_cons_zero, List.set_cons_succ]
        refine wpAnyH_take (i := 6) (oi := { dst := some 28, op := Op.index 9 (Operand.const (Value.string { data := #[48, 49, 50, 51, 52, 53, 54, 55, 56, 57, 97, 98, 99, 100, 101, 102] })) (Operand.tmp 27), type := 5, pos := "addr.go:86", after := #[{ on := 5, ground := Ground.data }], guard := none }) (v := .int .u8 ((hx z).toNat : Int)) rfl (by kernel_rfl) (by kernel_rfl) (by kernel_rfl) (fun _ _ _ h => h) (Or.inl ⟨by rfl, ?_⟩) trivial ?_
        · (intro w1 _; rcases sixteen z (by assumption) with rfl | rfl | rfl | rfl | rfl | rfl | rfl | rfl | rfl | rfl | rfl | rfl | rfl | rfl | rfl | rfl <;> rfl)
        try simp only [Act.put, List.setIfInBounds_toArray, List.set_cons_zero, List.set_cons_succ]
        refine wpAnyH_ready (rs := [7]) (by kernel_rfl) (by simp) ?_
        refine AllReadyH.cons (o := { dst := some 29, op := Op.buildSlice 32 2 #[(0, Operand.tmp 25), (1, Operand.tmp 28)], type := 32, pos := "addr.go:86", after := #[{ on := 3, ground := Ground.data }, { on := 6, ground := Ground.data }], guard := none }) rfl (fun K hK => ?_) AllReadyH.nil
        go_simp
        refine hK.out _ _ trivial (fun _ => ?_)
        clear hK K
        try simp only [Act.put, List.setIfInBounds_toArray, List.set_cons_zero, List.set_cons_succ]
        refine wpAnyH_ready (rs := [8]) (by kernel_rfl) (by simp) ?_
        refine AllReadyH.cons (o := { dst := some 30, op := Op.call { callee := Callee.builtin Builtin.append, args := #[Operand.tmp 22, Operand.tmp 29], argTypes := #[32, 32] }, type := 32, pos := "addr.go:86", after := #[{ on := 0, ground := Ground.data }, { on := 7, ground := Ground.data }], guard := none }) rfl (fun K hK => ?_) AllReadyH.nil
        rw [if_pos (by rfl)]
        refine wp_append_own _ (.tmp 22) (.tmp 29) 32 rfl w.heap.size 5 i0 (.int .u8 0) 1 1 Tryd.underlying32 hi hz0 hz1 hz2 rfl (by decide) _ (at6 k) (Lib.byteCells (text6to bs (at6 k))) rfl (World.ownsRow.alloc (show World.ownsRow w1.drew _ _ _ _ _ _ from HO1.out) _) ⟨w1.heap.size, 0, none⟩ 2 2 [.int .u8 ((hx y).toNat : Int), .int .u8 ((hx z).toNat : Int)] rfl rfl (cells_two _ _ _ _) (by intro u hu; simp at hu; rcases hu with rfl | rfl <;> rfl) (by have := at6_le k hlt; unfold maxLen; omega) (by have := at6_le k hlt; omega) (by have := HL1.out.size; simp; omega) ?_
        intro v' w' ho' hg' _
        have hlow' := (((show Below w.heap.size w w1.drew from HL1.out.drew)).alloc (show w.heap.size ≤ w1.drew.heap.size from HL1.out.size) (Obj.cells #[.int .u8 ((hx y).toNat : Int), .int .u8 ((hx z).toNat : Int)] 5)).grown hg' (by have := HL1.out.size; simp; omega) (fun k' hk' => (HO1.out.lt k' hk').1)
        have HO' := Lib.hid ho'
        have HL' := Lib.hid hlow'
        clear ho' hg' hlow'
        refine hK.out _ _ trivial (fun _ => ?_)
        clear hK K
        try simp only [Act.put, List.setIfInBounds_toArray, List.set_cons_zero, List.set_cons_succ]
        refine wpAnyH_take (i := 9) (oi := { dst := some 3, op := Op.assign (Operand.tmp 30), type := 32, pos := "addr.go:86", after := #[{ on := 8, ground := Ground.data }, { on := 8, ground := Ground.chain }, { on := 0, ground := Ground.phase }, { on := 1, ground := Ground.phase }, { on := 2, ground := Ground.phase }, { on := 3, ground := Ground.phase }, { on := 4, ground := Ground.phase }, { on := 5, ground := Ground.phase }, { on := 6, ground := Ground.phase }, { on := 7, ground := Ground.phase }, { on := 8, ground := Ground.phase }], guard := none }) (v := ?_) rfl (by kernel_rfl) (by kernel_rfl) (by kernel_rfl) (fun _ _ _ h => h) (Or.inl ⟨by rfl, ?_⟩) trivial ?_
        rotate_left
        · (intro w1 _; go_simp; try with_reducible rfl)
        try simp only [Act.put, List.setIfInBounds_toArray, List.set_cons_zero, List.set_cons_succ]
        refine wpAnyH_done (by kernel_rfl) ?_ _
        go_wp2
        go_roundw
        case rel => exact ⟨k + 1, Nat.succ_le_of_lt hlt, by go_num, Lib.hid (own_next HX.out HY.out HZ.out HO'.out), HL'⟩
        case measure => simp [RowKit.intOf]; omega
      · have hcase : (k = 0 ∨ k % 2 ≠ 0) := by omega
        have hown2 := hown.out
        rw [ln6_at k hcase] at hown2
        have HO1 := Lib.hid hown2
        clear hown2
        by_cases h0 : k = 0
        · have d0 : decide ((0 : Int) < (k : Int)) = false := decide_eq_false (by omega)
          have h0' : ¬ 0 < k := by omega
          clear h1 hcase h0
          go_wp2_with fail
          refine wp_region_held (S := fun _ => True) (by kernel_rfl) ?_
          refine wpAnyH_take (i := 0) (oi := { dst := some 22, op := Op.move (Operand.tmp 3), type := 32, pos := "addr.go:86", after := #[], guard := none }) (v := ?_) rfl (by kernel_rfl) (by kernel_rfl) (by kernel_rfl) (fun _ _ _ h => h) (Or.inl ⟨by rfl, ?_⟩) trivial ?_
          rotate_left
          · (intro w1 _; go_simp; try with_reducible rfl)
          try simp only [Act.put, List.setIfInBounds_toArray, List.set_cons_zero, List.set_cons_succ]
          refine wpAnyH_take (i := 1) (oi := { dst := some 23, op := Op.move (Operand.tmp 5), type := 5, pos := "addr.go:86", after := #[], guard := none }) (v := ?_) rfl (by kernel_rfl) (by kernel_rfl) (by kernel_rfl) (fun _ _ _ h => h) (Or.inl ⟨by rfl, ?_⟩) trivial ?_
          rotate_left
          · (intro w1 _; go_simp; try with_reducible rfl)
          try simp only [Act.put, List.setIfInBounds_toArray, List.set_cons_zero, List.set_cons_succ]
          refine wpAnyH_take (i := 2) (oi := { dst := some 24, op := Op.binOp BinOp.shr 5 (Operand.tmp 23) (Operand.const (Value.int IntKind.u64 4)) 52, type := 5, pos := "addr.go:86", after := #[{ on := 1, ground := Ground.data }], guard := none }) (v := .int .u8 (y : Int)) rfl (by kernel_rfl) (by kernel_rfl) (by kernel_rfl) (fun _ _ _ h => h) (Or.inl ⟨by rfl, ?_⟩) trivial ?_
          · (intro w1 _; go_simp; try with_reducible rfl)
          try simp only [Act.put, List.setIfInBounds_toArray, List.set_cons_zero, List.set_cons_succ]
          refine wpAnyH_take (i := 3) (oi := { dst := some 25, op := Op.index 9 (Operand.const (Value.string { data := #[48, 49, 50, 51, 52, 53, 54, 55, 56, 57, 97, 98, 99, 100, 101, 102] })) (Operand.tmp 24), type := 5, pos := "addr.go:86", after := #[{ on := 2, ground := Ground.data }], guard := none }) (v := .int .u8 ((hx y).toNat : Int)) rfl (by kernel_rfl) (by kernel_rfl) (by kernel_rfl) (fun _ _ _ h => h) (Or.inl ⟨by rfl, ?_⟩) trivial ?_
          · (intro w1 _; rcases sixteen y (by assumption) with rfl | rfl | rfl | rfl | rfl | rfl | rfl | rfl | rfl | rfl | rfl | rfl | rfl | rfl | rfl | rfl <;> rfl)
          try simp only [Act.put, List.setIfInBounds_toArray, List.set_cons_zero, List.set_cons_succ]
          refine wpAnyH_take (i := 4) (oi := { dst := some 26, op := Op.move (Operand.tmp 5), type := 5, pos := "addr.go:86", after := #[], guard := none }) (v := ?_) rfl (by kernel_rfl) (by kernel_rfl) (by kernel_rfl) (fun _ _ _ h => h) (Or.inl ⟨by rfl, ?_⟩) trivial ?_
          rotate_left
          · (intro w1 _; go_simp; try with_reducible rfl)
          try simp only [Act.put, List.setIfInBounds_toArray, List.set_cons_zero, List.set_cons_succ]
          refine wpAnyH_take (i := 5) (oi := { dst := some 27, op := Op.binOp BinOp.and 5 (Operand.tmp 26) (Operand.const (Value.int IntKind.u8 15)) 5, type := 5, pos := "addr.go:86", after := #[{ on := 4, ground := Ground.data }], guard := none }) (v := .int .u8 (z : Int)) rfl (by kernel_rfl) (by kernel_rfl) (by kernel_rfl) (fun _ _ _ h => h) (Or.inl ⟨by rfl, ?_⟩) trivial ?_
          · (intro w1 _; go_simp; try with_reducible rfl)
          try simp only [Act.put, List.setIfInBounds_toArray, List.set_cons_zero, List.set_cons_succ]
          refine wpAnyH_take (i := 6) (oi := { dst := some 28, op := Op.index 9 (Operand.const (Value.string { data := #[48, 49, 50, 51, 52, 53, 54, 55, 56, 57, 97, 98, 99, 100, 101, 102] })) (Operand.tmp 27), type := 5, pos := "addr.go:86", after := #[{ on := 5, ground := Ground.data }], guard := none }) (v := .int .u8 ((hx z).toNat : Int)) rfl (by kernel_rfl) (by kernel_rfl) (by kernel_rfl) (fun _ _ _ h => h) (Or.inl ⟨by rfl, ?_⟩) trivial ?_
          · (intro w1 _; rcases sixteen z (by assumption) with rfl | rfl | rfl | rfl | rfl | rfl | rfl | rfl | rfl | rfl | rfl | rfl | rfl | rfl | rfl | rfl <;> rfl)
          try simp only [Act.put, List.setIfInBounds_toArray, List.set_cons_zero, List.set_cons_succ]
          refine wpAnyH_ready (rs := [7]) (by kernel_rfl) (by simp) ?_
          refine AllReadyH.cons (o := { dst := some 29, op := Op.buildSlice 32 2 #[(0, Operand.tmp 25), (1, Operand.tmp 28)], type := 32, pos := "addr.go:86", after := #[{ on := 3, ground := Ground.data }, { on := 6, ground := Ground.data }], guard := none }) rfl (fun K hK => ?_) AllReadyH.nil
          go_simp
          refine hK.out _ _ trivial (fun _ => ?_)
          clear hK K
          try simp only [Act.put, List.setIfInBounds_toArray, List.set_cons_zero, List.set_cons_succ]
          refine wpAnyH_ready (rs := [8]) (by kernel_rfl) (by simp) ?_
          refine AllReadyH.cons (o := { dst := some 30, op := Op.call { callee := Callee.builtin Builtin.append, args := #[Operand.tmp 22, Operand.tmp 29], argTypes := #[32, 32] }, type := 32, pos := "addr.go:86", after := #[{ on := 0, ground := Ground.data }, { on := 7, ground := Ground.data }], guard := none }) rfl (fun K hK => ?_) AllReadyH.nil
          rw [if_pos (by rfl)]
          refine wp_append_own _ (.tmp 22) (.tmp 29) 32 rfl w.heap.size 5 i0 (.int .u8 0) 1 1 Tryd.underlying32 hi hz0 hz1 hz2 rfl (by decide) _ (at6 k) (Lib.byteCells (text6to bs (at6 k))) rfl (World.ownsRow.alloc (show World.ownsRow wr.drew _ _ _ _ _ _ from HO1.out) _) ⟨wr.heap.size, 0, none⟩ 2 2 [.int .u8 ((hx y).toNat : Int), .int .u8 ((hx z).toNat : Int)] rfl rfl (cells_two _ _ _ _) (by intro u hu; simp at hu; rcases hu with rfl | rfl <;> rfl) (by have := at6_le k hlt; unfold maxLen; omega) (by have := at6_le k hlt; omega) (by have := hlow.out.size; simp; omega) ?_
          intro v' w' ho' hg' _
          have hlow' := (((show Below w.heap.size w wr.drew from hlow.out.drew)).alloc (show w.heap.size ≤ wr.drew.heap.size from hlow.out.size) (Obj.cells #[.int .u8 ((hx y).toNat : Int), .int .u8 ((hx z).toNat : Int)] 5)).grown hg' (by have := hlow.out.size; simp; omega) (fun k' hk' => (HO1.out.lt k' hk').1)
          have HO' := Lib.hid ho'
          have HL' := Lib.hid hlow'
          clear ho' hg' hlow'
          refine hK.out _ _ trivial (fun _ => ?_)
          clear hK K
          try simp only [Act.put, List.setIfInBounds_toArray, List.set_cons_zero, List.set_cons_succ]
          refine wpAnyH_take (i := 9) (oi := { dst := some 3, op := Op.assign (Operand.tmp 30), type := 32, pos := "addr.go:86", after := #[{ on := 8, ground := Ground.data }, { on := 8, ground := Ground.chain }, { on := 0, ground := Ground.phase }, { on := 1, ground := Ground.phase }, { on := 2, ground := Ground.phase }, { on := 3, ground := Ground.phase }, { on := 4, ground := Ground.phase }, { on := 5, ground := Ground.phase }, { on := 6, ground := Ground.phase }, { on := 7, ground := Ground.phase }, { on := 8, ground := Ground.phase }], guard := none }) (v := ?_) rfl (by kernel_rfl) (by kernel_rfl) (by kernel_rfl) (fun _ _ _ h => h) (Or.inl ⟨by rfl, ?_⟩) trivial ?_
          rotate_left
          · (intro w1 _; go_simp; try with_reducible rfl)
          try simp only [Act.put, List.setIfInBounds_toArray, List.set_cons_zero, List.set_cons_succ]
          refine wpAnyH_done (by kernel_rfl) ?_ _
          go_wp2
          go_roundw
          case rel => exact ⟨k + 1, Nat.succ_le_of_lt hlt, by go_num, Lib.hid (own_next HX.out HY.out HZ.out HO'.out), HL'⟩
          case measure => simp [RowKit.intOf]; omega
        · have d0 : decide ((0 : Int) < (k : Int)) = true := decide_eq_true (by omega)
          have h0' : 0 < k := by omega
          have d1 : ((k : Int) % 2 == 0) = false := beq_eq_false_iff_ne.2 (by omega)
          clear h1 hcase h0
          go_wp2_with fail
          refine wp_region_held (S := fun _ => True) (by kernel_rfl) ?_
          refine wpAnyH_take (i := 0) (oi := { dst := some 22, op := Op.move (Operand.tmp 3), type := 32, pos := "addr.go:86", after := #[], guard := none }) (v := ?_) rfl (by kernel_rfl) (by kernel_rfl) (by kernel_rfl) (fun _ _ _ h => h) (Or.inl ⟨by rfl, ?_⟩) trivial ?_
          rotate_left
          · (intro w1 _; go_simp; try with_reducible rfl)
          try simp only [Act.put, List.setIfInBounds_toArray, List.set_cons_zero, List.set_cons_succ]
          refine wpAnyH_take (i := 1) (oi := { dst := some 23, op := Op.move (Operand.tmp 5), type := 5, pos := "addr.go:86", after := #[], guard := none }) (v := ?_) rfl (by kernel_rfl) (by kernel_rfl) (by kernel_rfl) (fun _ _ _ h => h) (Or.inl ⟨by rfl, ?_⟩) trivial ?_
          rotate_left
          · (intro w1 _; go_simp; try with_reducible rfl)
          try simp only [Act.put, List.setIfInBounds_toArray, List.set_cons_zero, List.set_cons_succ]
          refine wpAnyH_take (i := 2) (oi := { dst := some 24, op := Op.binOp BinOp.shr 5 (Operand.tmp 23) (Operand.const (Value.int IntKind.u64 4)) 52, type := 5, pos := "addr.go:86", after := #[{ on := 1, ground := Ground.data }], guard := none }) (v := .int .u8 (y : Int)) rfl (by kernel_rfl) (by kernel_rfl) (by kernel_rfl) (fun _ _ _ h => h) (Or.inl ⟨by rfl, ?_⟩) trivial ?_
          · (intro w1 _; go_simp; try with_reducible rfl)
          try simp only [Act.put, List.setIfInBounds_toArray, List.set_cons_zero, List.set_cons_succ]
          refine wpAnyH_take (i := 3) (oi := { dst := some 25, op := Op.index 9 (Operand.const (Value.string { data := #[48, 49, 50, 51, 52, 53, 54, 55, 56, 57, 97, 98, 99, 100, 101, 102] })) (Operand.tmp 24), type := 5, pos := "addr.go:86", after := #[{ on := 2, ground := Ground.data }], guard := none }) (v := .int .u8 ((hx y).toNat : Int)) rfl (by kernel_rfl) (by kernel_rfl) (by kernel_rfl) (fun _ _ _ h => h) (Or.inl ⟨by rfl, ?_⟩) trivial ?_
          · (intro w1 _; rcases sixteen y (by assumption) with rfl | rfl | rfl | rfl | rfl | rfl | rfl | rfl | rfl | rfl | rfl | rfl | rfl | rfl | rfl | rfl <;> rfl)
          try simp only [Act.put, List.setIfInBounds_toArray, List.set_cons_zero, List.set_cons_succ]
          refine wpAnyH_take (i := 4) (oi := { dst := some 26, op := Op.move (Operand.tmp 5), type := 5, pos := "addr.go:86", after := #[], guard := none }) (v := ?_) rfl (by kernel_rfl) (by kernel_rfl) (by kernel_rfl) (fun _ _ _ h => h) (Or.inl ⟨by rfl, ?_⟩) trivial ?_
          rotate_left
          · (intro w1 _; go_simp; try with_reducible rfl)
          try simp only [Act.put, List.setIfInBounds_toArray, List.set_cons_zero, List.set_cons_succ]
          refine wpAnyH_take (i := 5) (oi := { dst := some 27, op := Op.binOp BinOp.and 5 (Operand.tmp 26) (Operand.const (Value.int IntKind.u8 15)) 5, type := 5, pos := "addr.go:86", after := #[{ on := 4, ground := Ground.data }], guard := none }) (v := .int .u8 (z : Int)) rfl (by kernel_rfl) (by kernel_rfl) (by kernel_rfl) (fun _ _ _ h => h) (Or.inl ⟨by rfl, ?_⟩) trivial ?_
          · (intro w1 _; go_simp; try with_reducible rfl)
          try simp only [Act.put, List.setIfInBounds_toArray, List.set_cons_zero, List.set_cons_succ]
          refine wpAnyH_take (i := 6) (oi := { dst := some 28, op := Op.index 9 (Operand.const (Value.string { data := #[48, 49, 50, 51, 52, 53, 54, 55, 56, 57, 97, 98, 99, 100, 101, 102] })) (Operand.tmp 27), type := 5, pos := "addr.go:86", after := #[{ on := 5, ground := Ground.data }], guard := none }) (v := .int .u8 ((hx z).toNat : Int)) rfl (by kernel_rfl) (by kernel_rfl) (by kernel_rfl) (fun _ _ _ h => h) (Or.inl ⟨by rfl, ?_⟩) trivial ?_
          · (intro w1 _; rcases sixteen z (by assumption) with rfl | rfl | rfl | rfl | rfl | rfl | rfl | rfl | rfl | rfl | rfl | rfl | rfl | rfl | rfl | rfl <;> rfl)
          try simp only [Act.put, List.setIfInBounds_toArray, List.set_cons_zero, List.set_cons_succ]
          refine wpAnyH_ready (rs := [7]) (by kernel_rfl) (by simp) ?_
          refine AllReadyH.cons (o := { dst := some 29, op := Op.buildSlice 32 2 #[(0, Operand.tmp 25), (1, Operand.tmp 28)], type := 32, pos := "addr.go:86", after := #[{ on := 3, ground := Ground.data }, { on := 6, ground := Ground.data }], guard := none }) rfl (fun K hK => ?_) AllReadyH.nil
          go_simp
          refine hK.out _ _ trivial (fun _ => ?_)
          clear hK K
          try simp only [Act.put, List.setIfInBounds_toArray, List.set_cons_zero, List.set_cons_succ]
          refine wpAnyH_ready (rs := [8]) (by kernel_rfl) (by simp) ?_
          refine AllReadyH.cons (o := { dst := some 30, op := Op.call { callee := Callee.builtin Builtin.append, args := #[Operand.tmp 22, Operand.tmp 29], argTypes := #[32, 32] }, type := 32, pos := "addr.go:86", after := #[{ on := 0, ground := Ground.data }, { on := 7, ground := Ground.data }], guard := none }) rfl (fun K hK => ?_) AllReadyH.nil
          rw [if_pos (by rfl)]
          refine wp_append_own _ (.tmp 22) (.tmp 29) 32 rfl w.heap.size 5 i0 (.int .u8 0) 1 1 Tryd.underlying32 hi hz0 hz1 hz2 rfl (by decide) _ (at6 k) (Lib.byteCells (text6to bs (at6 k))) rfl (World.ownsRow.alloc (show World.ownsRow wr.drew _ _ _ _ _ _ from HO1.out) _) ⟨wr.heap.size, 0, none⟩ 2 2 [.int .u8 ((hx y).toNat : Int), .int .u8 ((hx z).toNat : Int)] rfl rfl (cells_two _ _ _ _) (by intro u hu; simp at hu; rcases hu with rfl | rfl <;> rfl) (by have := at6_le k hlt; unfold maxLen; omega) (by have := at6_le k hlt; omega) (by have := hlow.out.size; simp; omega) ?_
          intro v' w' ho' hg' _
          have hlow' := (((show Below w.heap.size w wr.drew from hlow.out.drew)).alloc (show w.heap.size ≤ wr.drew.heap.size from hlow.out.size) (Obj.cells #[.int .u8 ((hx y).toNat : Int), .int .u8 ((hx z).toNat : Int)] 5)).grown hg' (by have := hlow.out.size; simp; omega) (fun k' hk' => (HO1.out.lt k' hk').1)
          have HO' := Lib.hid ho'
          have HL' := Lib.hid hlow'
          clear ho' hg' hlow'
          refine hK.out _ _ trivial (fun _ => ?_)
          clear hK K
          try simp only [Act.put, List.setIfInBounds_toArray, List.set_cons_zero, List.set_cons_succ]
          refine wpAnyH_take (i := 9) (oi := { dst := some 3, op := Op.assign (Operand.tmp 30), type := 32, pos := "addr.go:86", after := #[{ on := 8, ground := Ground.data }, { on := 8, ground := Ground.chain }, { on := 0, ground := Ground.phase }, { on := 1, ground := Ground.phase }, { on := 2, ground := Ground.phase }, { on := 3, ground := Ground.phase }, { on := 4, ground := Ground.phase }, { on := 5, ground := Ground.phase }, { on := 6, ground := Ground.phase }, { on := 7, ground := Ground.phase }, { on := 8, ground := Ground.phase }], guard := none }) (v := ?_) rfl (by kernel_rfl) (by kernel_rfl) (by kernel_rfl) (fun _ _ _ h => h) (Or.inl ⟨by rfl, ?_⟩) trivial ?_
          rotate_left
          · (intro w1 _; go_simp; try with_reducible rfl)
          try simp only [Act.put, List.setIfInBounds_toArray, List.set_cons_zero, List.set_cons_succ]
          refine wpAnyH_done (by kernel_rfl) ?_ _
          go_wp2
          go_roundw
          case rel => exact ⟨k + 1, Nat.succ_le_of_lt hlt, by go_num, Lib.hid (own_next HX.out HY.out HZ.out HO'.out), HL'⟩
          case measure => simp [RowKit.intOf]; omega
    · obtain rfl : k = 16 := by omega
      have hown2 := hown.out
      have hcv := conv_own (l := text6 bs) hown2 (by decide)
      clear hown2
      go_wp2
      go_ret
      exact ⟨rfl, hlow.out⟩
end Go.Proofs.YtjcmidgeddhfoaaDoor
