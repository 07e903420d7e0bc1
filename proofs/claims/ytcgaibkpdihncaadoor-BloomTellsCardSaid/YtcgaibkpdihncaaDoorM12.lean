/- Texts that the walks of this seat lean on, put together. -/
import Derived.Laws.Rows
import Derived.Handy
import Derived.Ground.SlbCloneProg
import Derived.Shelf.Bytes.SlClone
import Derived.LoopTactic
import Derived.Lib.Hide
import Derived.DeepKeys
import Derived.Test.YtcgaibkpdihncaaDoorTk
import Derived.Test.YtcgaibkpdihncaaDoorM01
import Derived.Test.YtcgaibkpdihncaaDoorM03
import Derived.Test.YtcgaibkpdihncaaDoorM04
import Derived.Test.YtcgaibkpdihncaaDoorM11
import Derived.Test.YtcgaibkpdihncaaDoorProg
namespace Go.Proofs.YtcgaibkpdihncaaDoor
open Go.Shelf
def Tryd.laysSlK4_ren : Go.Shelf.Ren := ⟨fun | 4 => 63 | n => n, fun | 22 => 90 | 4 => 4 | 5 => 5 | n => n, fun | n => n⟩
theorem Tryd.laysSlK4 : Go.Proofs.SlLaysK.n4 Tryd.prog Tryd.laysSlK4_ren := {
  mixed := by kernel_rfl
  f4 := Tryd.func63.trans (congrArg some (by kernel_rfl))
  t4 := Tryd.underlying4
  a4 := Tryd.isAgg4
  z4 := Tryd.sizeOf4
  v4 := Tryd.zeroValue4
  t22 := Tryd.underlying90
  a22 := Tryd.isAgg90
  z22 := Tryd.sizeOf90
  v22 := Tryd.zeroValue90
  t5 := Tryd.underlying5
  i5 := by kernel_rfl }
open Go.RowKit Go.Lib in
theorem Tryd.bytes_Clone_at (a : Addr) (n c : Nat) (xs : List Int) (w : World) (hx : xs.length = n) (hbig : n ≤ 140737488355328) (hc : ∀ i, i < n → w.cell? (a.add i) = some (.int .u8 (xs.getD i 0))) :
    Calls Tryd.prog 63 #[.slice (some a) n c] w fun e w' => ∃ v', e = .returned v' ∧ w'.ownsRow w.heap.size 5 1 v' n (xs.map (Value.int .u8)) ∧ v' ≠ .slice none 0 0 ∧ Below w.heap.size w w' := Any.bytes_Clone_at Tryd.laysSlK4 a n c xs w hx hbig hc
end Go.Proofs.YtcgaibkpdihncaaDoor
namespace Go.Proofs.YtcgaibkpdihncaaDoor
open Go.RowKit Go.Lib
set_option maxRecDepth 100000 in
set_option maxHeartbeats 1000000 in
theorem bytes_six (b0 b1 b2 b3 b4 b5 b6 b7 b8 b9 b10 b11 b12 b13 b14 b15 : Nat) (w : World) :
    Calls Tryd.prog 58 #[.agg #[.bool true, .int .u8 (b0 : Int), .int .u8 (b1 : Int), .int .u8 (b2 : Int), .int .u8 (b3 : Int), .int .u8 (b4 : Int), .int .u8 (b5 : Int), .int .u8 (b6 : Int), .int .u8 (b7 : Int), .int .u8 (b8 : Int), .int .u8 (b9 : Int), .int .u8 (b10 : Int), .int .u8 (b11 : Int), .int .u8 (b12 : Int), .int .u8 (b13 : Int), .int .u8 (b14 : Int), .int .u8 (b15 : Int)]] w fun e w' => ∃ v, e = .returned v ∧ w'.ownsRow w.heap.size 5 1 v 16 (nus .u8 [b0, b1, b2, b3, b4, b5, b6, b7, b8, b9, b10, b11, b12, b13, b14, b15]) ∧ Below w.heap.size w w' := by
  have hb := Blk.new w 26 #[.bool true, .int .u8 (b0 : Int), .int .u8 (b1 : Int), .int .u8 (b2 : Int), .int .u8 (b3 : Int), .int .u8 (b4 : Int), .int .u8 (b5 : Int), .int .u8 (b6 : Int), .int .u8 (b7 : Int), .int .u8 (b8 : Int), .int .u8 (b9 : Int), .int .u8 (b10 : Int), .int .u8 (b11 : Int), .int .u8 (b12 : Int), .int .u8 (b13 : Int), .int .u8 (b14 : Int), .int .u8 (b15 : Int)]
  have C := Lib.hid (Tryd.bytes_Clone_at ⟨w.heap.size, 1, none⟩ 16 16 ([b0, b1, b2, b3, b4, b5, b6, b7, b8, b9, b10, b11, b12, b13, b14, b15].map fun n : Nat => (n : Int)) (w.alloc (.cells #[.bool true, .int .u8 (b0 : Int), .int .u8 (b1 : Int), .int .u8 (b2 : Int), .int .u8 (b3 : Int), .int .u8 (b4 : Int), .int .u8 (b5 : Int), .int .u8 (b6 : Int), .int .u8 (b7 : Int), .int .u8 (b8 : Int), .int .u8 (b9 : Int), .int .u8 (b10 : Int), .int .u8 (b11 : Int), .int .u8 (b12 : Int), .int .u8 (b13 : Int), .int .u8 (b14 : Int), .int .u8 (b15 : Int)] 26)) rfl (by omega) (fun i hi => by
    rw [Addr.add_mid, hb.cell (1 + i)]
    have h : i = 0 ∨ i = 1 ∨ i = 2 ∨ i = 3 ∨ i = 4 ∨ i = 5 ∨ i = 6 ∨ i = 7 ∨ i = 8 ∨ i = 9 ∨ i = 10 ∨ i = 11 ∨ i = 12 ∨ i = 13 ∨ i = 14 ∨ i = 15 := by omega
    rcases h with rfl | rfl | rfl | rfl | rfl | rfl | rfl | rfl | rfl | rfl | rfl | rfl | rfl | rfl | rfl | rfl <;> rfl))
  clear hb
  go_enter Tryd.func58, Tryd.ntmps58
  go_wp2_with (go_at_call 63; refine C.out.mono ?_; rintro e w1 ⟨v, rfl, ho, hn, hb1⟩)
  go_ret
  refine ⟨v, rfl, (by have h9 := own_low (b1 := w.heap.size) (by simp) ho; simpa [nus] using h9), ((Below.refl _ w).alloc (Nat.le_refl _) _).trans (hb1.mono (by simp))⟩
set_option maxRecDepth 100000 in
set_option maxHeartbeats 1000000 in
theorem bytes_four (b0 b1 b2 b3 b4 b5 b6 b7 b8 b9 b10 b11 b12 b13 b14 b15 : Nat) (w : World) :
    Calls Tryd.prog 58 #[.agg #[.bool false, .int .u8 (b0 : Int), .int .u8 (b1 : Int), .int .u8 (b2 : Int), .int .u8 (b3 : Int), .int .u8 (b4 : Int), .int .u8 (b5 : Int), .int .u8 (b6 : Int), .int .u8 (b7 : Int), .int .u8 (b8 : Int), .int .u8 (b9 : Int), .int .u8 (b10 : Int), .int .u8 (b11 : Int), .int .u8 (b12 : Int), .int .u8 (b13 : Int), .int .u8 (b14 : Int), .int .u8 (b15 : Int)]] w fun e w' => ∃ v, e = .returned v ∧ w'.ownsRow w.heap.size 5 1 v 4 (nus .u8 [b0, b1, b2, b3]) ∧ Below w.heap.size w w' := by
  have hb := Blk.new w 26 #[.bool false, .int .u8 (b0 : Int), .int .u8 (b1 : Int), .int .u8 (b2 : Int), .int .u8 (b3 : Int), .int .u8 (b4 : Int), .int .u8 (b5 : Int), .int .u8 (b6 : Int), .int .u8 (b7 : Int), .int .u8 (b8 : Int), .int .u8 (b9 : Int), .int .u8 (b10 : Int), .int .u8 (b11 : Int), .int .u8 (b12 : Int), .int .u8 (b13 : Int), .int .u8 (b14 : Int), .int .u8 (b15 : Int)]
  have C := Lib.hid (Tryd.bytes_Clone_at ⟨w.heap.size, 1, none⟩ 4 16 ([b0, b1, b2, b3].map fun n : Nat => (n : Int)) (w.alloc (.cells #[.bool false, .int .u8 (b0 : Int), .int .u8 (b1 : Int), .int .u8 (b2 : Int), .int .u8 (b3 : Int), .int .u8 (b4 : Int), .int .u8 (b5 : Int), .int .u8 (b6 : Int), .int .u8 (b7 : Int), .int .u8 (b8 : Int), .int .u8 (b9 : Int), .int .u8 (b10 : Int), .int .u8 (b11 : Int), .int .u8 (b12 : Int), .int .u8 (b13 : Int), .int .u8 (b14 : Int), .int .u8 (b15 : Int)] 26)) rfl (by omega) (fun i hi => by
    rw [Addr.add_mid, hb.cell (1 + i)]
    have h : i = 0 ∨ i = 1 ∨ i = 2 ∨ i = 3 := by omega
    rcases h with rfl | rfl | rfl | rfl <;> rfl))
  clear hb
  go_enter Tryd.func58, Tryd.ntmps58
  go_wp2_with (go_at_call 63; refine C.out.mono ?_; rintro e w1 ⟨v, rfl, ho, hn, hb1⟩)
  go_ret
  refine ⟨v, rfl, (by have h9 := own_low (b1 := w.heap.size) (by simp) ho; simpa [nus] using h9), ((Below.refl _ w).alloc (Nat.le_refl _) _).trans (hb1.mono (by simp))⟩
end Go.Proofs.YtcgaibkpdihncaaDoor
namespace Go.Proofs.YtcgaibkpdihncaaDoor
open Go.RowKit Go.Lib
set_option maxRecDepth 100000 in
theorem cell17 (v : Bool) (b0 b1 b2 b3 b4 b5 b6 b7 b8 b9 b10 b11 b12 b13 b14 b15 : Nat) (w : World) (k : Nat) (hk : k < 16) :
    (w.alloc (.cells #[.bool v, .int .u8 (b0 : Int), .int .u8 (b1 : Int), .int .u8 (b2 : Int), .int .u8 (b3 : Int), .int .u8 (b4 : Int), .int .u8 (b5 : Int), .int .u8 (b6 : Int), .int .u8 (b7 : Int), .int .u8 (b8 : Int), .int .u8 (b9 : Int), .int .u8 (b10 : Int), .int .u8 (b11 : Int), .int .u8 (b12 : Int), .int .u8 (b13 : Int), .int .u8 (b14 : Int), .int .u8 (b15 : Int)] 26)).cell? ⟨w.heap.size, 1 + k, none⟩ = some (.int .u8 (([b0, b1, b2, b3, b4, b5, b6, b7, b8, b9, b10, b11, b12, b13, b14, b15].getD k 0 : Nat) : Int)) := by
  rw [(Blk.new w 26 #[.bool v, .int .u8 (b0 : Int), .int .u8 (b1 : Int), .int .u8 (b2 : Int), .int .u8 (b3 : Int), .int .u8 (b4 : Int), .int .u8 (b5 : Int), .int .u8 (b6 : Int), .int .u8 (b7 : Int), .int .u8 (b8 : Int), .int .u8 (b9 : Int), .int .u8 (b10 : Int), .int .u8 (b11 : Int), .int .u8 (b12 : Int), .int .u8 (b13 : Int), .int .u8 (b14 : Int), .int .u8 (b15 : Int)]).cell (1 + k)]
  have h : k = 0 ∨ k = 1 ∨ k = 2 ∨ k = 3 ∨ k = 4 ∨ k = 5 ∨ k = 6 ∨ k = 7 ∨ k = 8 ∨ k = 9 ∨ k = 10 ∨ k = 11 ∨ k = 12 ∨ k = 13 ∨ k = 14 ∨ k = 15 := by omega
  rcases h with rfl | rfl | rfl | rfl | rfl | rfl | rfl | rfl | rfl | rfl | rfl | rfl | rfl | rfl | rfl | rfl <;> rfl
set_option maxRecDepth 100000 in
set_option maxHeartbeats 1000000 in
theorem ref_valid (v : Bool) (b0 b1 b2 b3 b4 b5 b6 b7 b8 b9 b10 b11 b12 b13 b14 b15 : Nat) (w : World) :
    Calls Tryd.prog 39 #[.agg #[.bool v, .int .u8 (b0 : Int), .int .u8 (b1 : Int), .int .u8 (b2 : Int), .int .u8 (b3 : Int), .int .u8 (b4 : Int), .int .u8 (b5 : Int), .int .u8 (b6 : Int), .int .u8 (b7 : Int), .int .u8 (b8 : Int), .int .u8 (b9 : Int), .int .u8 (b10 : Int), .int .u8 (b11 : Int), .int .u8 (b12 : Int), .int .u8 (b13 : Int), .int .u8 (b14 : Int), .int .u8 (b15 : Int)]] w fun e w' => e = .returned (.bool (vldA v [b0, b1, b2, b3, b4, b5, b6, b7, b8, b9, b10, b11, b12, b13, b14, b15])) ∧ Below w.heap.size w w' := by
  have hc := cell17 v b0 b1 b2 b3 b4 b5 b6 b7 b8 b9 b10 b11 b12 b13 b14 b15 w
  have hc0 : (w.alloc (.cells #[.bool v, .int .u8 (b0 : Int), .int .u8 (b1 : Int), .int .u8 (b2 : Int), .int .u8 (b3 : Int), .int .u8 (b4 : Int), .int .u8 (b5 : Int), .int .u8 (b6 : Int), .int .u8 (b7 : Int), .int .u8 (b8 : Int), .int .u8 (b9 : Int), .int .u8 (b10 : Int), .int .u8 (b11 : Int), .int .u8 (b12 : Int), .int .u8 (b13 : Int), .int .u8 (b14 : Int), .int .u8 (b15 : Int)] 26)).cell? ⟨w.heap.size, 0, none⟩ = some (.bool v) := (Blk.new w 26 _).cell 0
  obtain ⟨bs, hbs⟩ : ∃ bs, bs = [b0, b1, b2, b3, b4, b5, b6, b7, b8, b9, b10, b11, b12, b13, b14, b15] := ⟨_, rfl⟩
  obtain ⟨W, hW⟩ : ∃ W, W = w.alloc (.cells #[.bool v, .int .u8 (b0 : Int), .int .u8 (b1 : Int), .int .u8 (b2 : Int), .int .u8 (b3 : Int), .int .u8 (b4 : Int), .int .u8 (b5 : Int), .int .u8 (b6 : Int), .int .u8 (b7 : Int), .int .u8 (b8 : Int), .int .u8 (b9 : Int), .int .u8 (b10 : Int), .int .u8 (b11 : Int), .int .u8 (b12 : Int), .int .u8 (b13 : Int), .int .u8 (b14 : Int), .int .u8 (b15 : Int)] 26) := ⟨_, rfl⟩
  have HL := Lib.hid (show Below w.heap.size w W by rw [hW]; exact (Below.refl _ w).alloc (Nat.le_refl _) _)
  rw [← hbs] at hc ⊢
  have HB := Lib.hid hbs
  have HC := Lib.hid hc
  have HC0 := Lib.hid hc0
  clear hbs hc hc0
  go_enter Tryd.func39, Tryd.ntmps39
  go_wp2
  rw [← hW]
  rw [← hW] at HC HC0
  clear hW
  go_loop [3] (fun i => ∃ k : Nat, 4 ≤ k ∧ k ≤ 16 ∧ i = .int .i64 k ∧ Hid (v = true ∨ ∀ j, 4 ≤ j → j < k → bs.getD j 0 = 0)) (fun i => 16 - (RowKit.intOf i).toNat)
  case atStart => exact ⟨4, by omega, by omega, rfl, Lib.hid (.inr fun j h1 h2 => by omega)⟩
  case round =>
    obtain ⟨k, hk4, hk16, rfl, hall⟩ := hrel
    by_cases hlt : k < 16
    · have hck := HC.out k hlt
      have hcv := HC0.out
      obtain ⟨x, hx⟩ : ∃ x, x = bs.getD k 0 := ⟨_, rfl⟩
      rw [← hx] at hck
      have HX := Lib.hid hx
      clear hx
      cases v with
      | true =>
        go_wp2
        go_round
        case rel => exact ⟨k + 1, by omega, by omega, by go_num, Lib.hid (by simp)⟩
        case measure => simp [RowKit.intOf]; omega
      | false =>
        by_cases h0 : x = 0
        · subst h0
          go_wp2
          go_round
          case rel =>
            refine ⟨k + 1, by omega, by omega, by go_num, Lib.hid (.inr fun j h1 h2 => ?_)⟩
            by_cases hj : j = k
            · rw [hj]; exact HX.out.symm
            · rcases hall.out with h | h
              · cases h
              · exact h j h1 (by omega)
          case measure => simp [RowKit.intOf]; omega
        · have hne : ((x : Int) != 0) = true := by rw [bne_iff_ne]; omega
          have HV := Lib.hid (show vldA false bs = false by
            rcases hq : vldA false bs with _ | _
            · rfl
            · rcases vldA_spec.1 hq with h | h
              · cases h
              · exact absurd (HX.out.trans (h k hk4 hlt)) h0)
          clear h0
          go_wp2
          go_ret
          exact ⟨by rw [HV.out]; rfl, HL.out⟩
    · have HV := Lib.hid (show vldA v bs = true from vldA_spec.2 (by
        rcases hall.out with h | h
        · exact .inl h
        · exact .inr fun i h1 h2 => h i h1 (by omega)))
      go_wp2
      go_ret
      exact ⟨by rw [HV.out]; rfl, HL.out⟩
end Go.Proofs.YtcgaibkpdihncaaDoor
namespace Go.Proofs.YtcgaibkpdihncaaDoor
open Go.RowKit
set_option maxRecDepth 100000 in
theorem wf_byte : ∀ n : Fin 256, (Lit.int .u8 (n.1 : Int)).wf = true := by decide +kernel
set_option maxRecDepth 100000 in
theorem key5 (d n : Nat) (h : n < 256) : Tryd.prog.keyLits (d + 1) 5 [.int .u8 (n : Int)] = some [.int .u8 (n : Int)] := by
  unfold Program.keyLits
  rw [Tryd.underlying5]
  simp [wf_byte ⟨n, h⟩]
end Go.Proofs.YtcgaibkpdihncaaDoor
namespace Go.Proofs.YtcgaibkpdihncaaDoor
open Go.RowKit Go.Lib
set_option maxRecDepth 100000 in
theorem ref_adr (v : Bool) (bs : List Nat) (hl : bs.length = 16) (w : World) :
    Calls Tryd.prog 39 #[adr v bs] w fun e w' => e = .returned (.bool (vldA v bs)) ∧ Below w.heap.size w w' := by
  obtain ⟨b0, b1, b2, b3, b4, b5, b6, b7, b8, b9, b10, b11, b12, b13, b14, b15, rfl⟩ := list16 bs hl
  exact ref_valid v b0 b1 b2 b3 b4 b5 b6 b7 b8 b9 b10 b11 b12 b13 b14 b15 w
def bytesA (v : Bool) (bs : List Nat) : List Nat := if v then bs else bs.take 4
set_option maxRecDepth 100000 in
theorem bytes_own (v : Bool) (bs : List Nat) (hl : bs.length = 16) (w : World) :
    Calls Tryd.prog 58 #[adr v bs] w fun e w' => ∃ z, e = .returned z ∧ w'.ownsRow w.heap.size 5 1 z (bytesA v bs).length (nus .u8 (bytesA v bs)) ∧ Below w.heap.size w w' := by
  obtain ⟨b0, b1, b2, b3, b4, b5, b6, b7, b8, b9, b10, b11, b12, b13, b14, b15, rfl⟩ := list16 bs hl
  cases v with
  | true => exact bytes_six b0 b1 b2 b3 b4 b5 b6 b7 b8 b9 b10 b11 b12 b13 b14 b15 w
  | false => exact bytes_four b0 b1 b2 b3 b4 b5 b6 b7 b8 b9 b10 b11 b12 b13 b14 b15 w
end Go.Proofs.YtcgaibkpdihncaaDoor
