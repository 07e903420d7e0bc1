/- Texts that the walks of this seat lean on, put together. -/
import Derived.WalkKit
import Derived.LoopTactic
import Derived.Handy
import Derived.Lib.Hide
import Derived.Laws.CopyOwn
import Derived.BigQuiet
import Derived.Deep.QuietTactic
import Derived.KernelRfl
import Derived.WalkSpells
import Derived.WalkLawsBesides
import Derived.RangeFuncNested
import Derived.RangeFuncBound
import Derived.RangeFuncCalls
import Derived.RangeFuncLeaves
import Derived.RangeFuncBox
import Derived.Shelf.Abstract
import Derived.Shelf.RegionOpen
import Derived.OwnWalkIn
import Derived.TacticsInMore
import Derived.LoopNIn
import Derived.LoopIn
import Derived.Maps.AppendAt
import Derived.WalkSmall
import Derived.Lib.QuietBelow
import Derived.Deep.RegionHeld
import Derived.Below
import Derived.Test.YtblkpnjmmdbgnaaTk
import Derived.Test.YtblkpnjmmdbgnaaM01
import Derived.Test.YtblkpnjmmdbgnaaM02
import Derived.Test.YtblkpnjmmdbgnaaM03
import Derived.Test.YtblkpnjmmdbgnaaM04
import Derived.Test.YtblkpnjmmdbgnaaM05
import Derived.Test.YtblkpnjmmdbgnaaM08
import Derived.Test.YtblkpnjmmdbgnaaM13
import Derived.Test.YtblkpnjmmdbgnaaM15
import Derived.Test.YtblkpnjmmdbgnaaM16
import Derived.Test.YtblkpnjmmdbgnaaM19
import Derived.Test.YtblkpnjmmdbgnaaM21
import Derived.Test.YtblkpnjmmdbgnaaProg
namespace Go.Proofs.Ytblkpnjmmdbgnaa
open Go.RowKit Go.Lib
set_option maxRecDepth 100000 in
theorem key79 (d : Nat) (b4 b5 b6 b7 b8 b9 b10 b11 b12 b13 b14 b15 : Nat) (hb : ∀ n ∈ [b4, b5, b6, b7, b8, b9, b10, b11, b12, b13, b14, b15], n < 256) : Try.prog.keyLits (d + 2) 95 [.int .u8 (b4 : Int), .int .u8 (b5 : Int), .int .u8 (b6 : Int), .int .u8 (b7 : Int), .int .u8 (b8 : Int), .int .u8 (b9 : Int), .int .u8 (b10 : Int), .int .u8 (b11 : Int), .int .u8 (b12 : Int), .int .u8 (b13 : Int), .int .u8 (b14 : Int), .int .u8 (b15 : Int)] = some [.int .u8 (b4 : Int), .int .u8 (b5 : Int), .int .u8 (b6 : Int), .int .u8 (b7 : Int), .int .u8 (b8 : Int), .int .u8 (b9 : Int), .int .u8 (b10 : Int), .int .u8 (b11 : Int), .int .u8 (b12 : Int), .int .u8 (b13 : Int), .int .u8 (b14 : Int), .int .u8 (b15 : Int)] := by
  unfold Program.keyLits
  rw [Try.underlying95]
  have hc : Try.prog.cellsOf 5 = 1 := by kernel_rfl
  have hc2 : Try.prog.cellsOf 95 = 12 := by kernel_rfl
  simp only [List.mem_cons, List.not_mem_nil, or_false, forall_eq_or_imp, forall_eq] at hb
  obtain ⟨h4, h5, h6, h7, h8, h9, h10, h11, h12, h13, h14, h15⟩ := hb
  simp [hc, hc2, List.range_succ, key5 d b4 h4, key5 d b5 h5, key5 d b6 h6, key5 d b7 h7, key5 d b8 h8, key5 d b9 h9, key5 d b10 h10, key5 d b11 h11, key5 d b12 h12, key5 d b13 h13, key5 d b14 h14, key5 d b15 h15]
set_option maxRecDepth 100000 in
theorem key79t : Try.prog.keyTypeAt 2 95 = true := by kernel_rfl
set_option maxRecDepth 100000 in
theorem formed79 (b4 b5 b6 b7 b8 b9 b10 b11 b12 b13 b14 b15 : Nat) : (Value.agg #[.int .u8 (b4 : Int), .int .u8 (b5 : Int), .int .u8 (b6 : Int), .int .u8 (b7 : Int), .int .u8 (b8 : Int), .int .u8 (b9 : Int), .int .u8 (b10 : Int), .int .u8 (b11 : Int), .int .u8 (b12 : Int), .int .u8 (b13 : Int), .int .u8 (b14 : Int), .int .u8 (b15 : Int)]).formed Try.prog 95 = true := by kernel_rfl
set_option maxRecDepth 100000 in
theorem formed79z : (Value.agg #[.int .u8 0, .int .u8 0, .int .u8 0, .int .u8 0, .int .u8 0, .int .u8 0, .int .u8 0, .int .u8 0, .int .u8 0, .int .u8 0, .int .u8 0, .int .u8 0]).formed Try.prog 95 = true := by kernel_rfl
set_option maxRecDepth 100000 in
theorem key79z : Try.prog.keyLits 2 95 [.int .u8 0, .int .u8 0, .int .u8 0, .int .u8 0, .int .u8 0, .int .u8 0, .int .u8 0, .int .u8 0, .int .u8 0, .int .u8 0, .int .u8 0, .int .u8 0] = some [.int .u8 0, .int .u8 0, .int .u8 0, .int .u8 0, .int .u8 0, .int .u8 0, .int .u8 0, .int .u8 0, .int .u8 0, .int .u8 0, .int .u8 0, .int .u8 0] := by kernel_rfl
set_option maxRecDepth 100000 in
theorem eq79 (b4 b5 b6 b7 b8 b9 b10 b11 b12 b13 b14 b15 : Nat) (hb : ∀ n ∈ [b4, b5, b6, b7, b8, b9, b10, b11, b12, b13, b14, b15], n < 256) (w : World) :
    (Op.equalIn 10000 95 (.agg #[.int .u8 (b4 : Int), .int .u8 (b5 : Int), .int .u8 (b6 : Int), .int .u8 (b7 : Int), .int .u8 (b8 : Int), .int .u8 (b9 : Int), .int .u8 (b10 : Int), .int .u8 (b11 : Int), .int .u8 (b12 : Int), .int .u8 (b13 : Int), .int .u8 (b14 : Int), .int .u8 (b15 : Int)]) (.agg #[.int .u8 0, .int .u8 0, .int .u8 0, .int .u8 0, .int .u8 0, .int .u8 0, .int .u8 0, .int .u8 0, .int .u8 0, .int .u8 0, .int .u8 0, .int .u8 0])).run Try.prog w = .ok (decide ([b4, b5, b6, b7, b8, b9, b10, b11, b12, b13, b14, b15] = List.replicate 12 0)) w := by
  obtain ⟨r, hr, he⟩ := run_equalIn_deep (P := Try.prog) 9998 2 95 key79t w 2 2 _ _ _ _ (formed79 b4 b5 b6 b7 b8 b9 b10 b11 b12 b13 b14 b15) formed79z (key79 0 b4 b5 b6 b7 b8 b9 b10 b11 b12 b13 b14 b15 hb) key79z
  refine hr.trans ?_
  congr 1
  by_cases h : [b4, b5, b6, b7, b8, b9, b10, b11, b12, b13, b14, b15] = List.replicate 12 0
  · rw [decide_eq_true h]
    refine he.2 ?_
    simp only [List.replicate, List.cons.injEq, and_true] at h
    obtain ⟨rfl, rfl, rfl, rfl, rfl, rfl, rfl, rfl, rfl, rfl, rfl, rfl⟩ := h
    rfl
  · rw [decide_eq_false h]
    refine Bool.eq_false_iff.2 (fun q => h ?_)
    have q := he.1 q
    simp at q
    simp [List.replicate]
    omega
set_option maxRecDepth 100000 in
theorem sta79 (g : Nat) (W : World) : (Instr.arrayAt 95 (.slice (some ⟨g, 5, none⟩) 12 12)).run Try.prog W = .ok (.pointer (some ⟨g, 5, none⟩)) W := by rfl
set_option maxRecDepth 100000 in
set_option maxHeartbeats 1000000 in
theorem valid_any (v : Bool) (D : List Nat) (hl : D.length = 16) (hb : ∀ n ∈ D, n < 256) (w : World) :
    Calls Try.prog 40 #[adr v D] w fun e w' => e = .returned (.bool (vldA v D)) ∧ Below w.heap.size w w' := by
  obtain ⟨b0, b1, b2, b3, b4, b5, b6, b7, b8, b9, b10, b11, b12, b13, b14, b15, rfl⟩ := list16 D hl
  have ha : adr v [b0, b1, b2, b3, b4, b5, b6, b7, b8, b9, b10, b11, b12, b13, b14, b15] = .agg #[.bool v, .int .u8 (b0 : Int), .int .u8 (b1 : Int), .int .u8 (b2 : Int), .int .u8 (b3 : Int), .int .u8 (b4 : Int), .int .u8 (b5 : Int), .int .u8 (b6 : Int), .int .u8 (b7 : Int), .int .u8 (b8 : Int), .int .u8 (b9 : Int), .int .u8 (b10 : Int), .int .u8 (b11 : Int), .int .u8 (b12 : Int), .int .u8 (b13 : Int), .int .u8 (b14 : Int), .int .u8 (b15 : Int)] := rfl
  rw [ha]
  have hst := sta79 w.heap.size
  cases v with
  | true =>
    rw [show vldA true [b0, b1, b2, b3, b4, b5, b6, b7, b8, b9, b10, b11, b12, b13, b14, b15] = true from rfl]
    clear hb ha hl
    go_enter Try.func40, Try.ntmps40
    go_wp2_with fail
    go_ret
    exact ⟨rfl, (Below.refl _ w).alloc (Nat.le_refl _) _⟩
  | false =>
    have hv : vldA false [b0, b1, b2, b3, b4, b5, b6, b7, b8, b9, b10, b11, b12, b13, b14, b15] = decide ([b4, b5, b6, b7, b8, b9, b10, b11, b12, b13, b14, b15] = List.replicate 12 0) := by
      rw [Bool.eq_iff_iff, decide_eq_true_iff]
      constructor
      · intro h
        have h := (vldA_spec.1 h).resolve_left (by decide)
        have q := fun i h1 h2 => h i h1 h2
        simp only [List.replicate, List.cons.injEq, and_true]
        exact ⟨q 4 (by omega) (by omega), q 5 (by omega) (by omega), q 6 (by omega) (by omega), q 7 (by omega) (by omega), q 8 (by omega) (by omega), q 9 (by omega) (by omega), q 10 (by omega) (by omega), q 11 (by omega) (by omega), q 12 (by omega) (by omega), q 13 (by omega) (by omega), q 14 (by omega) (by omega), q 15 (by omega) (by omega)⟩
      · intro h
        simp only [List.replicate, List.cons.injEq, and_true] at h
        obtain ⟨rfl, rfl, rfl, rfl, rfl, rfl, rfl, rfl, rfl, rfl, rfl, rfl⟩ := h
        exact vldA_spec.2 (.inr fun i h1 h2 => by
          have : i = 4 ∨ i = 5 ∨ i = 6 ∨ i = 7 ∨ i = 8 ∨ i = 9 ∨ i = 10 ∨ i = 11 ∨ i = 12 ∨ i = 13 ∨ i = 14 ∨ i = 15 := by omega
          rcases this with rfl | rfl | rfl | rfl | rfl | rfl | rfl | rfl | rfl | rfl | rfl | rfl <;> rfl)
    rw [hv]
    have he := eq79 b4 b5 b6 b7 b8 b9 b10 b11 b12 b13 b14 b15 (fun n hn => hb n (.tail _ (.tail _ (.tail _ (.tail _ hn)))))
    generalize decide ([b4, b5, b6, b7, b8, b9, b10, b11, b12, b13, b14, b15] = List.replicate 12 0) = r at *
    have HE := Lib.hid he
    clear hb ha hl hv he
    go_enter Try.func40, Try.ntmps40
    have he := HE.out
    clear HE
    go_wp2_with fail
    go_ret
    exact ⟨rfl, (Below.refl _ w).alloc (Nat.le_refl _) _⟩
end Go.Proofs.Ytblkpnjmmdbgnaa
namespace Go.Proofs.Ytblkpnjmmdbgnaa
open Go.RowKit
set_option maxRecDepth 100000 in
theorem Try.info5 : (Try.prog.info? 5).map (fun i => (i.zero, i.size, i.bytes)) = some (some (.int .u8 0), 1, 1) := by kernel_rfl
set_option maxRecDepth 100000 in
theorem Try.size5 : (Try.prog.info? 5).map (·.size) = some 1 := by kernel_rfl
set_option maxRecDepth 100000 in
theorem size_made (n : Nat) : (madeCells #[Value.int .u8 0] n).toList.length = n := by rw [toList_madeCells_one]; simp
set_option maxRecDepth 100000 in
theorem splice_made (zs : List Nat) (n len : Nat) (h : len = zs.length) : splice (madeCells #[Value.int .u8 0] (len + n)).toList 0 (nus .u8 zs) = nus .u8 (zs ++ List.replicate n 0) := by
  rw [toList_madeCells_one, nus_append]
  subst h
  simp [splice, nus]
end Go.Proofs.Ytblkpnjmmdbgnaa
namespace Go.Proofs.Ytblkpnjmmdbgnaa
open Go.RowKit
set_option maxRecDepth 10000 in
set_option maxHeartbeats 400000 in
theorem len64_16 (w : World) :
    Calls Try.prog 63 #[.int .u64 65535] w fun e w' => e = .returned (.int .i64 16) ∧ w = w' := by
  go_enter Try.func63, Try.ntmps63
  go_wp2_with fail
  go_ret
  exact ⟨by kernel_rfl, rfl⟩
set_option maxRecDepth 10000 in
set_option maxHeartbeats 400000 in
theorem size16_any (w : World) :
    Calls Try.prog 61 #[] w fun e w' => e = .returned (.int .i64 2) ∧ w = w' := by
  go_enter Try.func61, Try.ntmps61
  go_wp2_with (go_at_call 63; refine (len64_16 _).mono ?_; rintro e w' ⟨rfl, rfl⟩)
  go_ret
  exact ⟨rfl, rfl⟩
set_option maxRecDepth 100000 in
set_option maxHeartbeats 400000 in
theorem fits16_pos (a : Option Addr) (len cap : Nat) (at0 : Int) (w : World) (hl : len ≤ maxLen) (h0 : 0 ≤ at0) :
    Calls Try.prog 64 #[.slice a len cap, .int .i64 at0] w fun e w' => e = .returned (.bool (decide (at0 ≤ (len : Int) - 2))) ∧ w = w' := by
  unfold maxLen at hl
  go_enter Try.func64, Try.ntmps64
  go_wp2_with (go_at_call 61; refine (size16_any _).mono ?_; rintro e w' ⟨rfl, rfl⟩)
  go_ret
  exact ⟨rfl, rfl⟩
end Go.Proofs.Ytblkpnjmmdbgnaa
namespace Go.Proofs.Ytblkpnjmmdbgnaa
open Go.RowKit
set_option maxRecDepth 100000 in
set_option maxHeartbeats 400000 in
theorem put16_yes (g n cap base : Nat) (k v : Nat) (zs : List Nat) (w : World) (hown : w.ownsRow base 5 1 (.slice (some ⟨g, 0, none⟩) n cap) n (nus .u8 zs)) (hn : n ≤ maxLen) (hk : k + 2 ≤ n) (hv : v < 65536) :
    Calls Try.prog 62 #[.slice (some ⟨g, 0, none⟩) n cap, .int .i64 k, .int .u16 v] w fun e w' => e = .returned (.bool true) ∧ w'.ownsRow base 5 1 (.slice (some ⟨g, 0, none⟩) n cap) n (nus .u8 (putRow zs k 2 v 2)) ∧ w.grownBy w' (some g) := by
  have hzl : zs.length = n := by have := hown.1; simpa [nus_length] using this
  unfold maxLen at hn
  have hfit : decide ((k : Int) ≤ (n : Int) - 2) = true := by simp; omega
  have HO := Lib.hid hown
  have HZ := Lib.hid hzl
  clear hown hzl
  go_enter Try.func62, Try.ntmps62
  go_wp2_with (first
    | (go_at_call 64; refine (fits16_pos _ _ _ _ _ (by unfold maxLen; omega) (by omega)).mono ?_; rintro e w' ⟨rfl, rfl⟩; rw [hfit])
    | (go_at_call 61; refine (size16_any _).mono ?_; rintro e w' ⟨rfl, rfl⟩))
  go_loopw [7, 8] (fun r i wr => ∃ j : Nat, j ≤ 2 ∧ r = .int .u64 ((v / 256 ^ j : Nat) : Int) ∧ i = .int .i64 ((k : Int) + 2 - 1 - j) ∧ wr.ownsRow base 5 1 (.slice (some ⟨g, 0, none⟩) n cap) n (nus .u8 (putRow zs k 2 v j)) ∧ w.grownBy wr (some g)) (fun _ i _ => (intOf i + 1 - k).toNat)
  case atStart => exact ⟨0, by omega, by simp, by simp, by rw [putRow_zero]; exact HO.out, World.grownBy.refl _ _⟩
  case round =>
    obtain ⟨j, hj, rfl, rfl, hown, hgr⟩ := hrel
    by_cases h1 : j < 2
    · obtain ⟨r, hr⟩ : ∃ r, r = v / 256 ^ j := ⟨_, rfl⟩
      obtain ⟨p, hp⟩ : ∃ p : Nat, (k : Int) + 2 - 1 - j = p := ⟨k + 2 - 1 - j, by omega⟩
      have hpk : k ≤ p ∧ p < k + 2 := by omega
      have hrv : r < 18446744073709551616 := by have := Nat.div_le_self v (256 ^ j); omega
      have hcell := hown.cellAt p (by omega)
      rw [nus_get _ _ _ (by rw [putRow_length _ _ _ _ _ (by rw [HZ.out]; exact hk) hj, HZ.out]; omega)] at hcell
      have hfz := hown.frozenAt p
      have hst := hown.stored p (.int .u8 ((r % 256 : Nat) : Int))
      have hstep := putRow_step zs k 2 v j (by rw [HZ.out]; exact hk) h1
      rw [← hr, show k + 2 - 1 - j = p from by omega] at hstep
      rw [nus_set, hstep] at hst
      have hr2 : r / 256 = v / 256 ^ (j + 1) := by rw [hr, Nat.div_div_eq_div_mul, Nat.pow_succ]
      rw [← hr, hp]
      obtain ⟨x, hx⟩ : ∃ x, x = (putRow zs k 2 v j).getD p 0 := ⟨_, rfl⟩
      rw [← hx] at hcell
      have HS := Lib.hid hst
      have HP := Lib.hid hp
      have HR := Lib.hid hr2
      clear hown hst hstep hp hr hr2 hx
      go_wp2
      go_roundw
      case rel => exact ⟨j + 1, by omega, by rw [← HR.out]; go_num, by have := HP.out; go_num, HS.out.1, grownBy_trans hgr HS.out.2⟩
      case measure => have := HP.out; simp [intOf]; omega
    · obtain rfl : j = 2 := by omega
      go_wp2
      go_ret
      exact ⟨rfl, hown, hgr⟩
end Go.Proofs.Ytblkpnjmmdbgnaa
namespace Go.Proofs.Ytblkpnjmmdbgnaa
open Go.RowKit
set_option maxRecDepth 100000 in
set_option maxHeartbeats 400000 in
theorem app16_any (va : Value) (zs : List Nat) (v : Nat) (w : World) (hr : Rd w va (nus .u8 zs)) (hz : zs.length ≤ 140737488351232) (hv : v < 65536) :
    Calls Try.prog 55 #[va, .int .u16 v] w fun e w' => ∃ x, e = .returned x ∧ w'.ownsRow w.heap.size 5 1 x (zs.length + 2) (nus .u8 (zs ++ bg 2 v)) ∧ Below w.heap.size w w' := by
  obtain ⟨i0, hi, hz0, hz1, hz2⟩ := info_parts Try.info5
  obtain ⟨a, cap, rfl, hlc, hl, hx⟩ := hr
  rw [nus_length] at hlc hx ⊢
  obtain ⟨len, hlen⟩ : ∃ len, len = zs.length := ⟨_, rfl⟩
  rw [← hlen] at hlc hx hz ⊢
  have HL := Lib.hid hlen
  have HX := Lib.hid hx
  clear hlen hx
  unfold maxLen at hl
  go_enter Try.func55, Try.ntmps55
  have hbase : w.heap.size ≤ w.heap.size := Nat.le_refl _
  go_wp2_with (first
    | (go_at_call 61; refine (size16_any _).mono ?_; rintro e w' ⟨rfl, rfl⟩)
    | (at_make; refine wpList_make_full _ rfl _ _ 77 rfl w.heap.size 5 i0 (.int .u8 0) 1 Try.underlying77 hi hz0 hz1 .i64 .i64 _ _ (len + 2) rfl rfl ?c1 ?c2 ?c3 ?c4 hbase ?_))
  case c1 => omega
  case c2 => omega
  case c3 => rw [hz2]; omega
  case c4 => unfold maxLen; omega
  intro w1 hown hgr
  have hb1 : Below w.heap.size w w1 := (Below.refl _ _).grown hgr (Nat.le_refl _) (fun k hk => by cases hk)
  obtain ⟨hh, _⟩ := own_heap hown
  have hrd : Rd w1 (.slice a len cap) (nus .u8 zs) := (show Rd w (.slice a len cap) (nus .u8 zs) from ⟨a, cap, by rw [nus_length, HL.out], by rw [nus_length, ← HL.out]; exact hlc, hl, by rw [nus_length, ← HL.out]; exact HX.out⟩).below hb1
  have hsrc := Lib.hid hrd.src
  have HH := Lib.hid hh
  have HB1 := Lib.hid hb1
  clear hh hown hgr hrd hb1
  go_wp2_with (with_reducible refine wpList_copy_splice rfl (.tmp 11) (.tmp 12) 77 77 rfl 5 Try.underlying77 Try.size5 _ _ _ _ _ _ rfl rfl w.heap.size 0 _ 5 HH.out (nus .u8 zs) ?d1 ?d2 ?d3 (oneCell_nus _ _) w.heap.size w HB1.out (Nat.le_refl _) ?_)
  case d1 => rw [nus_length, ← HL.out]; exact (Nat.min_eq_left (by omega)).symm
  case d2 => exact hsrc.out
  case d3 => rw [nus_length, ← HL.out, size_made]; omega
  intro w2 h2 hb2
  have hh2 := h2.out
  rw [splice_made zs 2 _ HL.out] at hh2
  have hown2 := own_of_heap (base := w.heap.size) (n := len + 2) hh2 (Nat.le_refl _) (by rw [nus_length, List.length_append, List.length_replicate, ← HL.out]) (by unfold maxLen; omega)
  have HO := Lib.hid hown2
  have HB2 := Lib.hid hb2
  clear hh2 hown2 h2 hb2 hsrc HH HB1 HX
  go_wp2_with (go_at_call 62; (refine (put16_yes w.heap.size (len + 2) (len + 2) w.heap.size len v _ _ HO.out (by unfold maxLen; omega) (Nat.le_refl _) hv).mono ?_); rintro e w3 ⟨rfl, hown3, hgr3⟩)
  go_ret
  refine ⟨_, rfl, ?_, HB2.out.grown hgr3 HB2.out.size (fun k hk => by cases hk; exact Nat.le_refl _)⟩
  rw [putRow_app zs 2 v len HL.out] at hown3
  exact hown3
end Go.Proofs.Ytblkpnjmmdbgnaa
namespace Go.Proofs.Ytblkpnjmmdbgnaa
open Go.RowKit
def w2 (E : List Nat) (j : Nat) : Nat := E.getD (2 * j) 0 * 256 + E.getD (2 * j + 1) 0
end Go.Proofs.Ytblkpnjmmdbgnaa
namespace Go.Proofs.Ytblkpnjmmdbgnaa
open Go.RowKit
set_option maxRecDepth 100000 in
theorem own_at {w : World} {base n : Nat} {e : TypeId} {v : Value} {xs : List Value} (h : w.ownsRow base e 1 v n xs) (h0 : 0 < n) : ∃ g cap, v = .slice (some ⟨g, 0, none⟩) n cap ∧ n ≤ cap ∧ cap ≤ maxLen ∧ base ≤ g ∧ g < w.heap.size := by
  rcases h.2 with ⟨-, h1⟩ | ⟨g, cap, cur, rfl, hg, h2, hnc, hcm, _⟩
  · omega
  · exact ⟨g, cap, rfl, hnc, hcm, hg, (Array.getElem?_eq_some_iff.1 h2).1⟩
end Go.Proofs.Ytblkpnjmmdbgnaa
namespace Go.Proofs.Ytblkpnjmmdbgnaa
open Go.RowKit
set_option maxRecDepth 100000 in
theorem wpAnyH_mono {P : Program} {ops : Array Oper} {Q : Exit → Act → World → Prop} {md : Region.Mode} {S S' : World → Prop} (hS : ∀ w, S' w → S w) :
    ∀ (fuel : Nat) (listed : Array Bool) (a : Act) (w : World), wpAnyH P md ops Q S' fuel listed a w → wpAnyH P md ops Q S fuel listed a w
  | 0, _, _, _, h => h
  | _ + 1, _, _, _, h => ⟨h.1, fun i hi => wpOp_mono (fun _ _ h' => ⟨hS _ h'.1, wpAnyH_mono hS _ _ _ _ h'.2⟩) (h.2 i hi)⟩
end Go.Proofs.Ytblkpnjmmdbgnaa
namespace Go.Proofs.Ytblkpnjmmdbgnaa
open Go.RowKit
set_option maxRecDepth 100000 in
theorem same_below {P : Program} {f : Nat} {args : Array Value} {W : World} {x : Ending} (h : Calls P f args W fun e w' => e = x ∧ W = w') : Calls P f args W fun e w' => e = x ∧ Below W.heap.size W w' :=
  h.mono fun _ _ ⟨h1, h2⟩ => ⟨h1, h2 ▸ Below.refl _ _⟩
end Go.Proofs.Ytblkpnjmmdbgnaa
