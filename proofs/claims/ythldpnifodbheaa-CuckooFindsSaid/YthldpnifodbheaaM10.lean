/- Texts that the walks of this seat lean on, put together. -/
import Derived.OpenShut
import Derived.Laws.Rows
import Derived.Handy
import Derived.Ground.SlbCloneProg
import Derived.Shelf.Bytes.SlClone
import Derived.Below
import Derived.RangeFuncRecord
import Derived.LoopTactic
import Derived.Lib.Hide
import Derived.Test.YthldpnifodbheaaTk
import Derived.Test.YthldpnifodbheaaTl
import Derived.Test.YthldpnifodbheaaM01
import Derived.Test.YthldpnifodbheaaM04
import Derived.Test.YthldpnifodbheaaM05
import Derived.Test.YthldpnifodbheaaM07
import Derived.Test.YthldpnifodbheaaM09
import Derived.Test.YthldpnifodbheaaProg
namespace Go.Proofs.Ythldpnifodbheaa
open Go.RowKit
set_option maxRecDepth 100000 in
theorem rd_nil (w : World) (k : IntKind) : Rd w (.slice none 0 0) (nus k []) := ⟨none, 0, rfl, by simp [nus], by simp [maxLen], .inl rfl⟩
set_option maxRecDepth 100000 in
theorem rd_shape {w : World} {v : Value} {k : IntKind} {bs : List Nat} (h : Rd w v (nus k bs)) : ∃ a cap, v = .slice a bs.length cap ∧ bs.length ≤ cap ∧ cap ≤ maxLen := by
  obtain ⟨a, cap, rfl, h1, h2, _⟩ := h
  rw [nus_length] at h1 ⊢
  exact ⟨a, cap, rfl, h1, h2⟩
set_option maxRecDepth 100000 in
theorem Rd.cells {w : World} {a : Option Addr} {len cap : Nat} {k : IntKind} {bs : List Nat} (h : Rd w (.slice a len cap) (nus k bs)) (h0 : 0 < len) :
    ∃ b off, a = some ⟨b, off, none⟩ ∧ ∀ i, i < len → w.cell? ⟨b, off + i, none⟩ = some (.int k ((bs.getD i 0 : Nat) : Int)) := by
  obtain ⟨a', cap', e, _, _, h⟩ := h
  simp only [Value.slice.injEq] at e
  obtain ⟨rfl, rfl, rfl⟩ := e
  rw [nus_length] at h0 h
  rcases h with h | ⟨b, off, rfl, _, hc⟩
  · rw [(nus_nil _ _).1 h] at h0; cases h0
  · exact ⟨b, off, rfl, fun i hi => by rw [nus_length] at hi; rw [hc i hi, nus_get _ _ _ hi]⟩
set_option maxRecDepth 100000 in
theorem Rd.front {w : World} {a : Option Addr} {len cap : Nat} {k : IntKind} {bs : List Nat} (h : Rd w (.slice a len cap) (nus k bs)) (m : Nat) (hm : m ≤ bs.length) : Rd w (.slice a m cap) (nus k (bs.take m)) := by
  obtain ⟨a', cap', e, h1, h2, h3⟩ := h
  simp only [Value.slice.injEq] at e
  obtain ⟨rfl, rfl, rfl⟩ := e
  rw [nus_length] at h1 h3
  have hl : (nus k (bs.take m)).length = m := by rw [nus_length]; simp; omega
  refine ⟨_, _, by rw [hl], by rw [hl]; omega, h2, ?_⟩
  rcases h3 with h3 | ⟨b', off', he, hb, hcc⟩
  · obtain rfl := (nus_nil _ _).1 h3
    exact .inl (by simp [nus])
  · refine .inr ⟨b', off', he, hb, fun i hi => ?_⟩
    rw [hl] at hi
    rw [hcc i (by omega)]
    simp [nus, hi]
set_option maxRecDepth 100000 in
theorem Rd.sub {w : World} {b off len cap : Nat} {k : IntKind} {bs : List Nat} (h : Rd w (.slice (some ⟨b, off, none⟩) len cap) (nus k bs)) (j m : Nat) (hc : j + m ≤ len) : Rd w (.slice (some ⟨b, off + j, none⟩) m (cap - j)) (nus k ((bs.drop j).take m)) := by
  obtain ⟨a', cap', e, h1, h2, h3⟩ := h
  simp only [Value.slice.injEq] at e
  obtain ⟨e1, rfl, rfl⟩ := e
  rw [nus_length] at h1 h3 hc
  have hl : (nus k ((bs.drop j).take m)).length = m := by rw [nus_length]; simp; omega
  refine ⟨_, _, by rw [hl], by rw [hl]; omega, by omega, ?_⟩
  rcases h3 with h3 | ⟨b', off', he, hb, hcc⟩
  · obtain rfl := (nus_nil _ _).1 h3
    exact .inl (by simp [nus])
  · rw [← e1] at he
    cases he
    refine .inr ⟨b, off + j, rfl, hb, fun i hi => ?_⟩
    rw [hl] at hi
    rw [Nat.add_assoc, hcc (j + i) (by omega)]
    simp [nus, hi]
end Go.Proofs.Ythldpnifodbheaa
namespace Go.Proofs.Ythldpnifodbheaa
open Go.Shelf
def Try.laysSlK4_ren : Go.Shelf.Ren := ⟨fun | 4 => 88 | n => n, fun | 22 => 124 | 4 => 4 | 5 => 5 | n => n, fun | n => n⟩
theorem Try.laysSlK4 : Go.Proofs.SlLaysK.n4 Try.prog Try.laysSlK4_ren := {
  mixed := by kernel_rfl
  f4 := Try.func88.trans (congrArg some (by kernel_rfl))
  t4 := Try.underlying4
  a4 := Try.isAgg4
  z4 := Try.sizeOf4
  v4 := Try.zeroValue4
  t22 := Try.underlying124
  a22 := Try.isAgg124
  z22 := Try.sizeOf124
  v22 := Try.zeroValue124
  t5 := Try.underlying5
  i5 := by kernel_rfl }
open Go.RowKit Go.Lib in
theorem Try.bytes_Clone_at (a : Addr) (n c : Nat) (xs : List Int) (w : World) (hx : xs.length = n) (hbig : n ≤ 140737488355328) (hc : ∀ i, i < n → w.cell? (a.add i) = some (.int .u8 (xs.getD i 0))) :
    Calls Try.prog 88 #[.slice (some a) n c] w fun e w' => ∃ v', e = .returned v' ∧ w'.ownsRow w.heap.size 5 1 v' n (xs.map (Value.int .u8)) ∧ v' ≠ .slice none 0 0 ∧ Below w.heap.size w w' := Any.bytes_Clone_at Try.laysSlK4 a n c xs w hx hbig hc
end Go.Proofs.Ythldpnifodbheaa
namespace Go.Proofs.Ythldpnifodbheaa
open Go.RowKit
set_option maxRecDepth 100000 in
theorem own_lit (w : World) (k : IntKind) (e : TypeId) (zs : List Nat) (n base : Nat) (hn : zs.length = n) (hm : n ≤ maxLen) (hb : base ≤ w.heap.size) :
    (w.alloc (.cells (nus k zs).toArray e)).ownsRow base e 1 (.slice (some ⟨w.heap.size, 0, none⟩) n n) n (nus k zs) :=
  own_of_heap (World.alloc_heap_new w _) hb (by rw [nus_length]; exact hn) hm
set_option maxRecDepth 100000 in
theorem rd_lit (w : World) (k : IntKind) (e : TypeId) (zs : List Nat) (n : Nat) (m : Nat × Nat) (hn : zs.length = n) (hm : n ≤ maxLen) :
    Rd (w.alloc (.cells (nus k zs).toArray e m)) (.slice (some ⟨w.heap.size, 0, none⟩) n n) (nus k zs) := by
  subst hn
  refine ⟨_, _, by rw [nus_length], by rw [nus_length]; exact Nat.le_refl _, hm, .inr ⟨_, _, rfl, by simp, fun i hi => ?_⟩⟩
  rw [Nat.zero_add, cell_of_row _ _ i (nus k zs).toArray e m (World.alloc_heap_new w _)]
  simp
set_option maxRecDepth 100000 in
theorem row_under {w w' : World} {base : Nat} {e : TypeId} {v : Value} {n : Nat} {xs : List Value} (h : w.ownsRow base e 1 v n xs) (hb : Below w.heap.size w w') : w'.ownsRow base e 1 v n xs := by
  obtain ⟨h1, h2⟩ := h
  refine ⟨h1, ?_⟩
  rcases h2 with h2 | ⟨g, cap', cur, rfl, hh, h4, hn, hm, h5⟩
  · exact .inl h2
  · refine .inr ⟨g, cap', cur, rfl, hh, ?_, hn, hm, h5⟩
    have hg : g < w.heap.size := (Array.getElem?_eq_some_iff.1 h4).1
    rw [hb.block g hg]; exact h4
set_option maxRecDepth 100000 in
theorem own_low {w : World} {b1 b2 : Nat} {e : TypeId} {v : Value} {n : Nat} {xs : List Value} (hb : b1 ≤ b2) (h : w.ownsRow b2 e 1 v n xs) : w.ownsRow b1 e 1 v n xs := by
  obtain ⟨h1, h2⟩ := h
  refine ⟨h1, ?_⟩
  rcases h2 with h2 | ⟨g, cap', cur, rfl, hh, h4⟩
  · exact .inl h2
  · exact .inr ⟨g, cap', cur, rfl, Nat.le_trans hb hh, h4⟩
end Go.Proofs.Ythldpnifodbheaa
namespace Go.Proofs.Ythldpnifodbheaa
open Go.RowKit Go.Lib
set_option maxRecDepth 100000 in
set_option maxHeartbeats 1000000 in
theorem bytes_six (b0 b1 b2 b3 b4 b5 b6 b7 b8 b9 b10 b11 b12 b13 b14 b15 : Nat) (w : World) :
    Calls Try.prog 82 #[.agg #[.bool true, .int .u8 (b0 : Int), .int .u8 (b1 : Int), .int .u8 (b2 : Int), .int .u8 (b3 : Int), .int .u8 (b4 : Int), .int .u8 (b5 : Int), .int .u8 (b6 : Int), .int .u8 (b7 : Int), .int .u8 (b8 : Int), .int .u8 (b9 : Int), .int .u8 (b10 : Int), .int .u8 (b11 : Int), .int .u8 (b12 : Int), .int .u8 (b13 : Int), .int .u8 (b14 : Int), .int .u8 (b15 : Int)]] w fun e w' => ∃ v, e = .returned v ∧ w'.ownsRow w.heap.size 5 1 v 16 (nus .u8 [b0, b1, b2, b3, b4, b5, b6, b7, b8, b9, b10, b11, b12, b13, b14, b15]) ∧ Below w.heap.size w w' := by
  have hb := Blk.new w 26 #[.bool true, .int .u8 (b0 : Int), .int .u8 (b1 : Int), .int .u8 (b2 : Int), .int .u8 (b3 : Int), .int .u8 (b4 : Int), .int .u8 (b5 : Int), .int .u8 (b6 : Int), .int .u8 (b7 : Int), .int .u8 (b8 : Int), .int .u8 (b9 : Int), .int .u8 (b10 : Int), .int .u8 (b11 : Int), .int .u8 (b12 : Int), .int .u8 (b13 : Int), .int .u8 (b14 : Int), .int .u8 (b15 : Int)]
  have C := lh (Try.bytes_Clone_at ⟨w.heap.size, 1, none⟩ 16 16 ([b0, b1, b2, b3, b4, b5, b6, b7, b8, b9, b10, b11, b12, b13, b14, b15].map fun n : Nat => (n : Int)) (w.alloc (.cells #[.bool true, .int .u8 (b0 : Int), .int .u8 (b1 : Int), .int .u8 (b2 : Int), .int .u8 (b3 : Int), .int .u8 (b4 : Int), .int .u8 (b5 : Int), .int .u8 (b6 : Int), .int .u8 (b7 : Int), .int .u8 (b8 : Int), .int .u8 (b9 : Int), .int .u8 (b10 : Int), .int .u8 (b11 : Int), .int .u8 (b12 : Int), .int .u8 (b13 : Int), .int .u8 (b14 : Int), .int .u8 (b15 : Int)] 26)) rfl (by omega) (fun i hi => by
    rw [Addr.add_mid, hb.cell (1 + i)]
    have h : i = 0 ∨ i = 1 ∨ i = 2 ∨ i = 3 ∨ i = 4 ∨ i = 5 ∨ i = 6 ∨ i = 7 ∨ i = 8 ∨ i = 9 ∨ i = 10 ∨ i = 11 ∨ i = 12 ∨ i = 13 ∨ i = 14 ∨ i = 15 := by omega
    rcases h with rfl | rfl | rfl | rfl | rfl | rfl | rfl | rfl | rfl | rfl | rfl | rfl | rfl | rfl | rfl | rfl <;> rfl))
  clear hb
  go_enter Try.func82, Try.ntmps82
  go_wp2_with (go_at_call 88; refine C.out.mono ?_; rintro e w1 ⟨v, rfl, ho, hn, hb1⟩)
  go_ret
  refine ⟨v, rfl, (by have h9 := own_low (b1 := w.heap.size) (by simp) ho; simpa [nus] using h9), ((Below.refl _ w).alloc (Nat.le_refl _) _).trans (hb1.mono (by simp))⟩
set_option maxRecDepth 100000 in
set_option maxHeartbeats 1000000 in
theorem bytes_four (b0 b1 b2 b3 b4 b5 b6 b7 b8 b9 b10 b11 b12 b13 b14 b15 : Nat) (w : World) :
    Calls Try.prog 82 #[.agg #[.bool false, .int .u8 (b0 : Int), .int .u8 (b1 : Int), .int .u8 (b2 : Int), .int .u8 (b3 : Int), .int .u8 (b4 : Int), .int .u8 (b5 : Int), .int .u8 (b6 : Int), .int .u8 (b7 : Int), .int .u8 (b8 : Int), .int .u8 (b9 : Int), .int .u8 (b10 : Int), .int .u8 (b11 : Int), .int .u8 (b12 : Int), .int .u8 (b13 : Int), .int .u8 (b14 : Int), .int .u8 (b15 : Int)]] w fun e w' => ∃ v, e = .returned v ∧ w'.ownsRow w.heap.size 5 1 v 4 (nus .u8 [b0, b1, b2, b3]) ∧ Below w.heap.size w w' := by
  have hb := Blk.new w 26 #[.bool false, .int .u8 (b0 : Int), .int .u8 (b1 : Int), .int .u8 (b2 : Int), .int .u8 (b3 : Int), .int .u8 (b4 : Int), .int .u8 (b5 : Int), .int .u8 (b6 : Int), .int .u8 (b7 : Int), .int .u8 (b8 : Int), .int .u8 (b9 : Int), .int .u8 (b10 : Int), .int .u8 (b11 : Int), .int .u8 (b12 : Int), .int .u8 (b13 : Int), .int .u8 (b14 : Int), .int .u8 (b15 : Int)]
  have C := lh (Try.bytes_Clone_at ⟨w.heap.size, 1, none⟩ 4 16 ([b0, b1, b2, b3].map fun n : Nat => (n : Int)) (w.alloc (.cells #[.bool false, .int .u8 (b0 : Int), .int .u8 (b1 : Int), .int .u8 (b2 : Int), .int .u8 (b3 : Int), .int .u8 (b4 : Int), .int .u8 (b5 : Int), .int .u8 (b6 : Int), .int .u8 (b7 : Int), .int .u8 (b8 : Int), .int .u8 (b9 : Int), .int .u8 (b10 : Int), .int .u8 (b11 : Int), .int .u8 (b12 : Int), .int .u8 (b13 : Int), .int .u8 (b14 : Int), .int .u8 (b15 : Int)] 26)) rfl (by omega) (fun i hi => by
    rw [Addr.add_mid, hb.cell (1 + i)]
    have h : i = 0 ∨ i = 1 ∨ i = 2 ∨ i = 3 := by omega
    rcases h with rfl | rfl | rfl | rfl <;> rfl))
  clear hb
  go_enter Try.func82, Try.ntmps82
  go_wp2_with (go_at_call 88; refine C.out.mono ?_; rintro e w1 ⟨v, rfl, ho, hn, hb1⟩)
  go_ret
  refine ⟨v, rfl, (by have h9 := own_low (b1 := w.heap.size) (by simp) ho; simpa [nus] using h9), ((Below.refl _ w).alloc (Nat.le_refl _) _).trans (hb1.mono (by simp))⟩
end Go.Proofs.Ythldpnifodbheaa
namespace Go.Proofs.Ythldpnifodbheaa
open Go.RowKit Go.Lib
set_option maxRecDepth 100000 in
theorem cell17 (v : Bool) (b0 b1 b2 b3 b4 b5 b6 b7 b8 b9 b10 b11 b12 b13 b14 b15 : Nat) (w : World) (k : Nat) (hk : k < 16) :
    (w.alloc (.cells #[.bool v, .int .u8 (b0 : Int), .int .u8 (b1 : Int), .int .u8 (b2 : Int), .int .u8 (b3 : Int), .int .u8 (b4 : Int), .int .u8 (b5 : Int), .int .u8 (b6 : Int), .int .u8 (b7 : Int), .int .u8 (b8 : Int), .int .u8 (b9 : Int), .int .u8 (b10 : Int), .int .u8 (b11 : Int), .int .u8 (b12 : Int), .int .u8 (b13 : Int), .int .u8 (b14 : Int), .int .u8 (b15 : Int)] 26)).cell? ⟨w.heap.size, 1 + k, none⟩ = some (.int .u8 (([b0, b1, b2, b3, b4, b5, b6, b7, b8, b9, b10, b11, b12, b13, b14, b15].getD k 0 : Nat) : Int)) := by
  rw [(Blk.new w 26 #[.bool v, .int .u8 (b0 : Int), .int .u8 (b1 : Int), .int .u8 (b2 : Int), .int .u8 (b3 : Int), .int .u8 (b4 : Int), .int .u8 (b5 : Int), .int .u8 (b6 : Int), .int .u8 (b7 : Int), .int .u8 (b8 : Int), .int .u8 (b9 : Int), .int .u8 (b10 : Int), .int .u8 (b11 : Int), .int .u8 (b12 : Int), .int .u8 (b13 : Int), .int .u8 (b14 : Int), .int .u8 (b15 : Int)]).cell (1 + k)]
  have h : k = 0 ∨ k = 1 ∨ k = 2 ∨ k = 3 ∨ k = 4 ∨ k = 5 ∨ k = 6 ∨ k = 7 ∨ k = 8 ∨ k = 9 ∨ k = 10 ∨ k = 11 ∨ k = 12 ∨ k = 13 ∨ k = 14 ∨ k = 15 := by omega
  rcases h with rfl | rfl | rfl | rfl | rfl | rfl | rfl | rfl | rfl | rfl | rfl | rfl | rfl | rfl | rfl | rfl <;> rfl
set_option maxRecDepth 100000 in
set_option maxHeartbeats 1000000 in
theorem ref_valid (v : Bool) (b0 b1 b2 b3 b4 b5 b6 b7 b8 b9 b10 b11 b12 b13 b14 b15 : Nat) (w : World) :
    Calls Try.prog 60 #[.agg #[.bool v, .int .u8 (b0 : Int), .int .u8 (b1 : Int), .int .u8 (b2 : Int), .int .u8 (b3 : Int), .int .u8 (b4 : Int), .int .u8 (b5 : Int), .int .u8 (b6 : Int), .int .u8 (b7 : Int), .int .u8 (b8 : Int), .int .u8 (b9 : Int), .int .u8 (b10 : Int), .int .u8 (b11 : Int), .int .u8 (b12 : Int), .int .u8 (b13 : Int), .int .u8 (b14 : Int), .int .u8 (b15 : Int)]] w fun e w' => e = .returned (.bool (vldA v [b0, b1, b2, b3, b4, b5, b6, b7, b8, b9, b10, b11, b12, b13, b14, b15])) ∧ Below w.heap.size w w' := by
  have hc := cell17 v b0 b1 b2 b3 b4 b5 b6 b7 b8 b9 b10 b11 b12 b13 b14 b15 w
  have hc0 : (w.alloc (.cells #[.bool v, .int .u8 (b0 : Int), .int .u8 (b1 : Int), .int .u8 (b2 : Int), .int .u8 (b3 : Int), .int .u8 (b4 : Int), .int .u8 (b5 : Int), .int .u8 (b6 : Int), .int .u8 (b7 : Int), .int .u8 (b8 : Int), .int .u8 (b9 : Int), .int .u8 (b10 : Int), .int .u8 (b11 : Int), .int .u8 (b12 : Int), .int .u8 (b13 : Int), .int .u8 (b14 : Int), .int .u8 (b15 : Int)] 26)).cell? ⟨w.heap.size, 0, none⟩ = some (.bool v) := (Blk.new w 26 _).cell 0
  obtain ⟨bs, hbs⟩ : ∃ bs, bs = [b0, b1, b2, b3, b4, b5, b6, b7, b8, b9, b10, b11, b12, b13, b14, b15] := ⟨_, rfl⟩
  obtain ⟨W, hW⟩ : ∃ W, W = w.alloc (.cells #[.bool v, .int .u8 (b0 : Int), .int .u8 (b1 : Int), .int .u8 (b2 : Int), .int .u8 (b3 : Int), .int .u8 (b4 : Int), .int .u8 (b5 : Int), .int .u8 (b6 : Int), .int .u8 (b7 : Int), .int .u8 (b8 : Int), .int .u8 (b9 : Int), .int .u8 (b10 : Int), .int .u8 (b11 : Int), .int .u8 (b12 : Int), .int .u8 (b13 : Int), .int .u8 (b14 : Int), .int .u8 (b15 : Int)] 26) := ⟨_, rfl⟩
  have HL := lh (show Below w.heap.size w W by rw [hW]; exact (Below.refl _ w).alloc (Nat.le_refl _) _)
  rw [← hbs] at hc ⊢
  have HB := lh hbs
  have HC := lh hc
  have HC0 := lh hc0
  clear hbs hc hc0
  go_enter Try.func60, Try.ntmps60
  go_wp2
  rw [← hW]
  rw [← hW] at HC HC0
  clear hW
  go_loop [3] (fun i => ∃ k : Nat, 4 ≤ k ∧ k ≤ 16 ∧ i = .int .i64 k ∧ Hid (v = true ∨ ∀ j, 4 ≤ j → j < k → bs.getD j 0 = 0)) (fun i => 16 - (RowKit.intOf i).toNat)
  case atStart => exact ⟨4, by omega, by omega, rfl, lh (.inr fun j h1 h2 => by omega)⟩
  case round =>
    obtain ⟨k, hk4, hk16, rfl, hall⟩ := hrel
    by_cases hlt : k < 16
    · have hck := HC.out k hlt
      have hcv := HC0.out
      obtain ⟨x, hx⟩ : ∃ x, x = bs.getD k 0 := ⟨_, rfl⟩
      rw [← hx] at hck
      have HX := lh hx
      clear hx
      cases v with
      | true =>
        go_wp2
        go_round
        case rel => exact ⟨k + 1, by omega, by omega, by go_num, lh (by simp)⟩
        case measure => simp [RowKit.intOf]; omega
      | false =>
        by_cases h0 : x = 0
        · subst h0
          go_wp2
          go_round
          case rel =>
            refine ⟨k + 1, by omega, by omega, by go_num, lh (.inr fun j h1 h2 => ?_)⟩
            by_cases hj : j = k
            · rw [hj]; exact HX.out.symm
            · rcases hall.out with h | h
              · cases h
              · exact h j h1 (by omega)
          case measure => simp [RowKit.intOf]; omega
        · have hne : ((x : Int) != 0) = true := by rw [bne_iff_ne]; omega
          have HV := lh (show vldA false bs = false by
            rcases hq : vldA false bs with _ | _
            · rfl
            · rcases vldA_spec.1 hq with h | h
              · cases h
              · exact absurd (HX.out.trans (h k hk4 hlt)) h0)
          clear h0
          go_wp2
          go_ret
          exact ⟨by rw [HV.out]; rfl, HL.out⟩
    · have HV := lh (show vldA v bs = true from vldA_spec.2 (by
        rcases hall.out with h | h
        · exact .inl h
        · exact .inr fun i h1 h2 => h i h1 (by omega)))
      go_wp2
      go_ret
      exact ⟨by rw [HV.out]; rfl, HL.out⟩
end Go.Proofs.Ythldpnifodbheaa
namespace Go.Proofs.Ythldpnifodbheaa
open Go.RowKit Go.Lib
set_option maxRecDepth 100000 in
theorem ref_adr (v : Bool) (bs : List Nat) (hl : bs.length = 16) (w : World) :
    Calls Try.prog 60 #[adr v bs] w fun e w' => e = .returned (.bool (vldA v bs)) ∧ Below w.heap.size w w' := by
  obtain ⟨b0, b1, b2, b3, b4, b5, b6, b7, b8, b9, b10, b11, b12, b13, b14, b15, rfl⟩ := list16 bs hl
  exact ref_valid v b0 b1 b2 b3 b4 b5 b6 b7 b8 b9 b10 b11 b12 b13 b14 b15 w
def bytesA (v : Bool) (bs : List Nat) : List Nat := if v then bs else bs.take 4
set_option maxRecDepth 100000 in
theorem bytes_own (v : Bool) (bs : List Nat) (hl : bs.length = 16) (w : World) :
    Calls Try.prog 82 #[adr v bs] w fun e w' => ∃ z, e = .returned z ∧ w'.ownsRow w.heap.size 5 1 z (bytesA v bs).length (nus .u8 (bytesA v bs)) ∧ Below w.heap.size w w' := by
  obtain ⟨b0, b1, b2, b3, b4, b5, b6, b7, b8, b9, b10, b11, b12, b13, b14, b15, rfl⟩ := list16 bs hl
  cases v with
  | true => exact bytes_six b0 b1 b2 b3 b4 b5 b6 b7 b8 b9 b10 b11 b12 b13 b14 b15 w
  | false => exact bytes_four b0 b1 b2 b3 b4 b5 b6 b7 b8 b9 b10 b11 b12 b13 b14 b15 w
end Go.Proofs.Ythldpnifodbheaa
