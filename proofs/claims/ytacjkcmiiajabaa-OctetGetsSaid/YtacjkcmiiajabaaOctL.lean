/- bazaarlaw1.awake answers true. -/
import Derived.Test.YtacjkcmiiajabaaOctK
import Derived.Test.YtacjkcmiiajabaaStr
import Derived.Lib.SlBytesConst
namespace Go.Proofs.Ytacjkcmiiajabaa
open Go.RowKit

theorem own_lit (w : World) (k : IntKind) (e : TypeId) (zs : List Nat) (n base : Nat) (hn : zs.length = n) (hm : n ≤ maxLen) (hb : base ≤ w.heap.size) :
    (w.alloc (.cells (nus k zs).toArray e)).ownsRow base e 1 (.slice (some ⟨w.heap.size, 0, none⟩) n n) n (nus k zs) :=
  own_of_heap (World.alloc_heap_new w _) hb (by rw [nus_length]; exact hn) hm

theorem rd_lit (w : World) (k : IntKind) (e : TypeId) (zs : List Nat) (n : Nat) (m : Nat × Nat) (hn : zs.length = n) (hm : n ≤ maxLen) :
    Rd (w.alloc (.cells (nus k zs).toArray e m)) (.slice (some ⟨w.heap.size, 0, none⟩) n n) (nus k zs) := by
  subst hn
  refine ⟨_, _, by rw [nus_length], by rw [nus_length]; exact Nat.le_refl _, hm, .inr ⟨_, _, rfl, by simp, fun i hi => ?_⟩⟩
  rw [Nat.zero_add, cell_of_row _ _ i (nus k zs).toArray e m (World.alloc_heap_new w _)]
  simp

set_option maxRecDepth 100000 in
set_option maxHeartbeats 2000000 in
theorem awake_any (w : World) : Calls Try.prog 8 #[] w fun e w' => e = .returned (.bool true) ∧ Below w.heap.size w w' := by
  go_enter Try.func8, Try.ntmps8
  have o1 := own_lit w .u8 5 [1, 0, 0, 1, 2] 5 0 rfl (by simp [maxLen]) (Nat.zero_le _)
  have hb1 := (Below.refl w.heap.size w).alloc (Nat.le_refl _) (.cells (nus .u8 [1, 0, 0, 1, 2]).toArray 5)
  have R1 := Lib.hid (Rd.own o1)
  have B1 := Lib.hid hb1
  clear o1 hb1
  go_wp2_with fail
  refine (get32_yes (.slice (some ⟨w.heap.size, 0, none⟩) 5 5) 1 [1, 0, 0, 1, 2] _ R1.out (by decide) (by decide)).mono ?_
  rintro e w' ⟨rfl, rfl⟩
  rw [show be (List.take 4 (List.drop 1 [1, 0, 0, 1, 2])) = 258 from by decide]
  have b1 := B1.out
  clear R1 B1
  generalize hW : w.alloc (Obj.cells (nus .u8 [1, 0, 0, 1, 2]).toArray 5) = W1 at b1 ⊢
  clear hW
  go_wp2_with fail
  refine (get16_no _ 1 1 0 _ (by simp [maxLen]) (.inr (by decide))).mono ?_
  rintro e w' ⟨rfl, rfl⟩
  have b2 := b1.alloc b1.size (.cells #[.int .u8 1] 5)
  generalize hW : W1.alloc (Obj.cells #[.int .u8 1] 5) = W2 at b2 ⊢
  clear hW b1
  have o3 := own_lit W2 .u8 5 [9, 9, 9] 3 w.heap.size rfl (by simp [maxLen]) b2.size
  have b3 := b2.alloc b2.size (.cells (nus .u8 [9, 9, 9]).toArray 5)
  have O3 := Lib.hid o3
  have B3 := Lib.hid b3
  clear o3 b3
  go_wp2_with fail
  have hp := put16_yes W2.heap.size 3 3 w.heap.size 1 258 [9, 9, 9] _ O3.out (by simp [maxLen]) (by decide) (by decide)
  have HP := Lib.hid hp
  clear hp
  generalize hW : W2.alloc (Obj.cells (nus .u8 [9, 9, 9]).toArray 5) = W3 at O3 B3 HP
  have hW' : W2.alloc (Obj.cells #[.int .u8 9, .int .u8 9, .int .u8 9] 5) = W3 := hW
  rw [hW']
  refine HP.out.mono ?_
  rintro e W4 ⟨rfl, hown, hgr⟩
  have b4 := B3.out.grown hgr B3.out.size (fun k e => by cases e; exact b2.size)
  generalize hg : W2.heap.size = g at hown hgr ⊢
  have hgb : w.heap.size ≤ g := by rw [← hg]; exact b2.size
  clear HP O3 hgr hW hW' B3 hg b2
  have O4 := Lib.hid hown
  have B4 := Lib.hid b4
  clear hown b4
  go_wp2_with fail
  refine (put16_no _ 3 3 2 1 _ (by simp [maxLen]) (.inr (by decide))).mono ?_
  rintro e w' ⟨rfl, rfl⟩
  have O5 := Lib.hid (O4.out.alloc (.cells (nus .u8 [1, 2, 3]).toArray 5))
  have B5 := Lib.hid (B4.out.alloc B4.out.size (.cells (nus .u8 [1, 2, 3]).toArray 5))
  have R5 := Lib.hid (Rd.own (own_lit W4 .u8 5 [1, 2, 3] 3 0 rfl (by simp [maxLen]) (Nat.zero_le _)))
  clear O4 B4
  go_wp2_with fail
  generalize hs : W4.heap.size = s5 at R5 ⊢
  generalize hW : W4.alloc (Obj.cells (nus .u8 [1, 2, 3]).toArray 5) = W5 at O5 B5 R5
  have hW' : W4.alloc (Obj.cells #[.int .u8 1, .int .u8 2, .int .u8 3] 5) = W5 := hW
  rw [hW']
  clear hW hW' hs
  refine (two_all _ [1, 2, 3] (-1) W5 R5.out (by decide) (by decide)).mono ?_
  rintro e W6 ⟨x, y, rfl, rx, ry, b6⟩
  have hcnt : wds [1, 2, 3] (cnt (nw [1, 2, 3]) (-1)) = [(0, 258), (2, 768)] := by decide
  rw [hcnt] at rx ry
  have O6 := Lib.hid (O5.out.kept ⟨b6.os, b6.tape, b6.output, b6.size, fun k hk _ => b6.block k hk⟩ (row := none) (by simp [Value.ownBlock]))
  have B6 := Lib.hid (B5.out.trans (b6.mono B5.out.size))
  have RX := Lib.hid rx
  have RY := Lib.hid ry
  clear O5 B5 R5 rx ry b6 hcnt
  have hc6 := conv_rd W6 22 9 5 Try.underlying22 Try.underlying5 Try.underlying9 _ [9, 1, 2] (show Rd W6 _ (nus .u8 [9, 1, 2]) from (show putRow [9, 9, 9] 1 2 258 2 = [9, 1, 2] from by decide) ▸ Rd.own O6.out)
  rw [show str [9, 1, 2] = ⟨#[9, 1, 2]⟩ from rfl] at hc6
  go_wp2_with fail
  clear hc6
  have b7 := B6.out.alloc B6.out.size (.cells (nus .i64 [0, 2]).toArray 3)
  have r7 := RX.out.below ((Below.refl _ W6).alloc (Nat.le_refl _) (.cells (nus .i64 [0, 2]).toArray 3))
  have y7 := RY.out.below ((Below.refl _ W6).alloc (Nat.le_refl _) (.cells (nus .i64 [0, 2]).toArray 3))
  have l7 := Rd.own (own_lit W6 .i64 3 [0, 2] 2 0 rfl (by simp [maxLen]) (Nat.zero_le _))
  generalize hW : W6.alloc (Obj.cells (nus .i64 [0, 2]).toArray 3) = W7 at b7 r7 y7 l7
  have hW' : W6.alloc (Obj.cells #[.int .i64 0, .int .i64 2] 3) = W7 := hW
  rw [hW']
  clear hW hW' RX RY B6 O6
  refine (ints_any _ _ [0, 2] [0, 2] W7 r7 l7).mono ?_
  rintro e W8 ⟨rfl, n, rfl⟩
  rw [show decide (([0, 2] : List Int) = [0, 2]) = true from by decide]
  have b8 := below_drewN b7 n
  have y8 : Rd (W7.drewN n) y (nus .u16 [258, 768]) := y7
  generalize hW : W7.drewN n = W8 at b8 y8 ⊢
  clear hW b7 y7 l7 r7
  obtain ⟨ay, cy, rfl, _, _, hy⟩ := y8
  rcases hy with hy | ⟨by1, oy, rfl, _, hyc⟩
  · cases hy
  have cy0 := hyc 0 (by decide)
  have cy1 := hyc 1 (by decide)
  simp only [nus, List.map_cons, List.map_nil, List.getElem?_cons_zero, List.getElem?_cons_succ, Nat.add_zero, List.length_cons, List.length_nil] at cy0 cy1 ⊢
  have B8 := Lib.hid b8
  clear hyc b8
  have kc := fun (w : World) (C : Array Value) (n c : Nat) => Lib.run_convert_bytes_const (P := Try.prog) w 22 5 C n c Try.underlying22 Try.underlying5
  have k2 := kc (W8.alloc (.cells #[.int .u8 97, .int .u8 98, .int .u8 99] 5 (3, 4))) #[.int .u8 97, .int .u8 98, .int .u8 100] 3 3
  rw [World.size_alloc] at k2
  go_wp2_with fail
  clear kc k2 cy0 cy1
  have q1 := (rd_lit W8 .u8 5 [97, 98, 99] 3 (3, 4) rfl (by simp [maxLen])).below ((Below.refl _ _).alloc (Nat.le_refl _) (.cells (nus .u8 [97, 98, 100]).toArray 5 (3, 4)))
  have q2 := rd_lit (W8.alloc (.cells (nus .u8 [97, 98, 99]).toArray 5 (3, 4))) .u8 5 [97, 98, 100] 3 (3, 4) rfl (by simp [maxLen])
  rw [World.size_alloc] at q2
  have b9 := (B8.out.alloc B8.out.size (.cells (nus .u8 [97, 98, 99]).toArray 5 (3, 4))).alloc (by rw [World.size_alloc]; exact Nat.le_succ_of_le B8.out.size) (.cells (nus .u8 [97, 98, 100]).toArray 5 (3, 4))
  generalize hW : (W8.alloc (.cells (nus .u8 [97, 98, 99]).toArray 5 (3, 4))).alloc (.cells (nus .u8 [97, 98, 100]).toArray 5 (3, 4)) = W9 at q1 q2 b9
  have hW' : (W8.alloc (.cells #[.int .u8 97, .int .u8 98, .int .u8 99] 5 (3, 4))).alloc (.cells #[.int .u8 97, .int .u8 98, .int .u8 100] 5 (3, 4)) = W9 := hW
  rw [hW']
  clear hW hW' B8
  refine (same_any _ _ [97, 98, 99] [97, 98, 100] W9 q1 q2).mono ?_
  rintro e W10 ⟨rfl, n2, rfl⟩
  rw [show same [97, 98, 99] [97, 98, 100] = 2 from by decide]
  have b10 := below_drewN b9 n2
  generalize hW : W9.drewN n2 = W10 at b10 ⊢
  clear hW q1 q2 b9
  have r11 := rd_lit W10 .u8 5 [7] 1 (0, 0) rfl (by simp [maxLen])
  have B11 := Lib.hid (b10.alloc b10.size (.cells (nus .u8 [7]).toArray 5))
  have R11 := Lib.hid r11
  clear b10 r11
  go_wp2_with fail
  generalize hs11 : W10.heap.size = s11 at R11 ⊢
  generalize hW : W10.alloc (Obj.cells (nus .u8 [7]).toArray 5) = W11 at B11 R11
  have hW' : W10.alloc (Obj.cells #[.int .u8 7] 5) = W11 := hW
  rw [hW']
  clear hW hW' hs11
  refine (app64_any _ [7] 1 W11 R11.out (by decide) (by decide)).mono ?_
  rintro e W12 ⟨z, rfl, hown, hb12⟩
  have hc12 := conv_rd W12 22 9 5 Try.underlying22 Try.underlying5 Try.underlying9 z [7, 0, 0, 0, 0, 0, 0, 0, 1] (Rd.own hown)
  rw [show str [7, 0, 0, 0, 0, 0, 0, 0, 1] = ⟨#[7, 0, 0, 0, 0, 0, 0, 0, 1]⟩ from rfl] at hc12
  have B12 := Lib.hid (B11.out.trans (hb12.mono B11.out.size))
  clear hown hb12 B11 R11
  go_wp2
  go_ret
  exact ⟨rfl, B12.out⟩
end Go.Proofs.Ytacjkcmiiajabaa
