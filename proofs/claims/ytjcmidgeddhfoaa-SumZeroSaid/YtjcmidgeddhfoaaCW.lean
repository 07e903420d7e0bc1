/- bazaarlaw3.awake answers true; bazaarlaw3.same tells what it tells. -/
import Derived.Test.YtjcmidgeddhfoaaCC
import Derived.Lib.SlBytesConst
namespace Go.Proofs.Ytjcmidgeddhfoaa
open Go.RowKit

theorem own_lit (w : World) (k : IntKind) (e : TypeId) (zs : List Nat) (n base : Nat) (hn : zs.length = n) (hm : n ≤ maxLen) (hb : base ≤ w.heap.size) :
    (w.alloc (.cells (nus k zs).toArray e)).ownsRow base e 1 (.slice (some ⟨w.heap.size, 0, none⟩) n n) n (nus k zs) :=
  own_of_heap (World.alloc_heap_new w _) hb (by rw [nus_length]; exact hn) hm

theorem rd_lit (w : World) (k : IntKind) (e : TypeId) (zs : List Nat) (n : Nat) (m : Nat × Nat) (hn : zs.length = n) (hm : n ≤ maxLen) :
    Rd (w.alloc (.cells (nus k zs).toArray e m)) (.slice (some ⟨w.heap.size, 0, none⟩) n n) (nus k zs) := by
  subst hn
  refine ⟨_, _, by rw [nus_length], by rw [nus_length]; exact Nat.le_refl _, hm, .inr ⟨_, _, rfl, by simp, fun i hi => ?_⟩⟩
  rw [Nat.zero_add, cell_of_row _ _ i (nus k zs).toArray e m (World.alloc_heap_new w _)]
  simp

set_option maxRecDepth 100000 in
set_option maxHeartbeats 2000000 in
theorem awake_any (w : World) : Calls Try.prog 6 #[] w fun e w' => e = .returned (.bool true) ∧ Below w.heap.size w w' := by
  go_enter Try.func6, Try.ntmps6
  have b1 := (Below.refl w.heap.size w).alloc (Nat.le_refl _) (.cells (nus .u8 [0, 1, 242, 3]).toArray 5)
  have r1 := rd_lit w .u8 5 [0, 1, 242, 3] 4 (0, 0) rfl (by simp [maxLen])
  go_wp2_with fail
  refine (check_any _ [0, 1, 242, 3] _ r1 (by decide) (by decide)).mono ?_
  rintro e W1 ⟨rfl, hb⟩
  have b2 := b1.trans (hb.mono b1.size)
  rw [show ck [0, 1, 242, 3] = 3579 from by decide]
  clear b1 r1 hb
  have b3 := b2.alloc b2.size (.cells (nus .u8 [255, 255, 0, 1]).toArray 5)
  have r3 := rd_lit W1 .u8 5 [255, 255, 0, 1] 4 (0, 0) rfl (by simp [maxLen])
  go_wp2_with fail
  refine (sum_any _ [255, 255, 0, 1] 0 _ r3 (by decide) (by decide) (by decide)).mono ?_
  rintro e W2 ⟨rfl, hb⟩
  have b4 := b3.trans (hb.mono b3.size)
  rw [show gr (0 + wsp 0 [255, 255, 0, 1]) = 1 from by decide]
  clear b3 r3 hb b2
  go_wp2_with fail
  refine (upd_any 3579 1 2 _ (by decide) (by decide) (by decide)).mono ?_
  rintro e w' ⟨rfl, rfl⟩
  rw [show upd 3579 1 2 = 3578 from by decide]
  have b5 := (b4.alloc b4.size (.cells (nus .u8 [1]).toArray 5))
  have r5 := rd_lit W2 .u8 5 [1] 1 (0, 0) rfl (by simp [maxLen])
  have b6 := (b5.alloc b5.size (.cells (nus .u8 [2]).toArray 5))
  have r6 := rd_lit (W2.alloc (.cells (nus .u8 [1]).toArray 5)) .u8 5 [2] 1 (0, 0) rfl (by simp [maxLen])
  have r7 := r5.below ((Below.refl _ (W2.alloc (.cells (nus .u8 [1]).toArray 5))).alloc (Nat.le_refl _) (.cells (nus .u8 [2]).toArray 5))
  rw [World.size_alloc] at r6
  have hcn := change_no 7 _ _ [1] [2] _ r7 r6 (.inr (by decide))
  clear r5 r6 r7 b5 b4
  have B6 := Lib.hid b6
  clear b6
  go_wp2_with fail
  refine hcn.mono ?_
  rintro e W3 ⟨rfl, hb⟩
  have b7 := B6.out.trans (hb.mono B6.out.size)
  clear B6 hb hcn
  go_wp2
  go_ret
  exact ⟨rfl, b7⟩

set_option maxHeartbeats 400000 in
theorem alike_any (a b : Nat) (w : World) (ha : a < 65536) (hb : b < 65536) :
    Calls Try.prog 17 #[.int .u16 (a : Int), .int .u16 (b : Int)] w fun e w' => e = .returned (.bool (decide (a % 65535 = b % 65535))) ∧ w = w' := by
  go_enter Try.func17, Try.ntmps17
  by_cases h : a = b
  · subst h
    go_wp2
    go_ret
    exact ⟨by simp, rfl⟩
  · have h1 : ((a : Int) == (b : Int)) = false := by simp; omega
    have h2 : (((a : Int) % 65535) == ((b : Int) % 65535)) = decide (a % 65535 = b % 65535) := by
      rw [Bool.eq_iff_iff]; simp; omega
    clear h
    go_wp2
    go_ret
    exact ⟨rfl, rfl⟩
end Go.Proofs.Ytjcmidgeddhfoaa
