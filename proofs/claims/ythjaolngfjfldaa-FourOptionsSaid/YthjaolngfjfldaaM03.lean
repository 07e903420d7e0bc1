/- Texts that the walks of this seat lean on, put together: each has its own remark below. -/
import Derived.Laws.Rows
import Derived.Handy
import Derived.LoopTactic
import Derived.Lib.Hide
import Derived.DeepKeys
import Derived.StillTailTactics
import Derived.Laws.Tables
import Derived.Lib.QuietBelow
import Derived.BigFrame
import Derived.Test.YthjaolngfjfldaaM01
import Derived.Test.YthjaolngfjfldaaM02

/- addr.Bytes. -/
namespace Go.Proofs.Ythjaolngfjfldaa
open Go.RowKit Go.Lib

set_option maxHeartbeats 1000000 in
theorem bytes_six (b0 b1 b2 b3 b4 b5 b6 b7 b8 b9 b10 b11 b12 b13 b14 b15 : Nat) (w : World) :
    Calls Try.prog 27 #[.agg #[.bool true, .int .u8 (b0 : Int), .int .u8 (b1 : Int), .int .u8 (b2 : Int), .int .u8 (b3 : Int), .int .u8 (b4 : Int), .int .u8 (b5 : Int), .int .u8 (b6 : Int), .int .u8 (b7 : Int), .int .u8 (b8 : Int), .int .u8 (b9 : Int), .int .u8 (b10 : Int), .int .u8 (b11 : Int), .int .u8 (b12 : Int), .int .u8 (b13 : Int), .int .u8 (b14 : Int), .int .u8 (b15 : Int)]] w fun e w' => ∃ v, e = .returned v ∧ w'.ownsRow w.heap.size 5 1 v 16 (nus .u8 [b0, b1, b2, b3, b4, b5, b6, b7, b8, b9, b10, b11, b12, b13, b14, b15]) ∧ Below w.heap.size w w' := by
  have hb := Blk.new w 25 #[.bool true, .int .u8 (b0 : Int), .int .u8 (b1 : Int), .int .u8 (b2 : Int), .int .u8 (b3 : Int), .int .u8 (b4 : Int), .int .u8 (b5 : Int), .int .u8 (b6 : Int), .int .u8 (b7 : Int), .int .u8 (b8 : Int), .int .u8 (b9 : Int), .int .u8 (b10 : Int), .int .u8 (b11 : Int), .int .u8 (b12 : Int), .int .u8 (b13 : Int), .int .u8 (b14 : Int), .int .u8 (b15 : Int)]
  have C := Lib.hid (Try.bytes_Clone_at ⟨w.heap.size, 1, none⟩ 16 16 ([b0, b1, b2, b3, b4, b5, b6, b7, b8, b9, b10, b11, b12, b13, b14, b15].map fun n : Nat => (n : Int)) (w.alloc (.cells #[.bool true, .int .u8 (b0 : Int), .int .u8 (b1 : Int), .int .u8 (b2 : Int), .int .u8 (b3 : Int), .int .u8 (b4 : Int), .int .u8 (b5 : Int), .int .u8 (b6 : Int), .int .u8 (b7 : Int), .int .u8 (b8 : Int), .int .u8 (b9 : Int), .int .u8 (b10 : Int), .int .u8 (b11 : Int), .int .u8 (b12 : Int), .int .u8 (b13 : Int), .int .u8 (b14 : Int), .int .u8 (b15 : Int)] 25)) rfl (by omega) (fun i hi => by
    rw [Addr.add_mid, hb.cell (1 + i)]
    have h : i = 0 ∨ i = 1 ∨ i = 2 ∨ i = 3 ∨ i = 4 ∨ i = 5 ∨ i = 6 ∨ i = 7 ∨ i = 8 ∨ i = 9 ∨ i = 10 ∨ i = 11 ∨ i = 12 ∨ i = 13 ∨ i = 14 ∨ i = 15 := by omega
    rcases h with rfl | rfl | rfl | rfl | rfl | rfl | rfl | rfl | rfl | rfl | rfl | rfl | rfl | rfl | rfl | rfl <;> rfl))
  clear hb
  go_enter Try.func27, Try.ntmps27
  go_wp2_with (go_at_call 30; refine C.out.mono ?_; rintro e w1 ⟨v, rfl, ho, hn, hb1⟩)
  go_ret
  refine ⟨v, rfl, (by have h9 := own_low (b1 := w.heap.size) (by simp) ho; simpa [nus] using h9), ((Below.refl _ w).alloc (Nat.le_refl _) _).trans (hb1.mono (by simp))⟩

set_option maxHeartbeats 1000000 in
theorem bytes_four (b0 b1 b2 b3 b4 b5 b6 b7 b8 b9 b10 b11 b12 b13 b14 b15 : Nat) (w : World) :
    Calls Try.prog 27 #[.agg #[.bool false, .int .u8 (b0 : Int), .int .u8 (b1 : Int), .int .u8 (b2 : Int), .int .u8 (b3 : Int), .int .u8 (b4 : Int), .int .u8 (b5 : Int), .int .u8 (b6 : Int), .int .u8 (b7 : Int), .int .u8 (b8 : Int), .int .u8 (b9 : Int), .int .u8 (b10 : Int), .int .u8 (b11 : Int), .int .u8 (b12 : Int), .int .u8 (b13 : Int), .int .u8 (b14 : Int), .int .u8 (b15 : Int)]] w fun e w' => ∃ v, e = .returned v ∧ w'.ownsRow w.heap.size 5 1 v 4 (nus .u8 [b0, b1, b2, b3]) ∧ Below w.heap.size w w' := by
  have hb := Blk.new w 25 #[.bool false, .int .u8 (b0 : Int), .int .u8 (b1 : Int), .int .u8 (b2 : Int), .int .u8 (b3 : Int), .int .u8 (b4 : Int), .int .u8 (b5 : Int), .int .u8 (b6 : Int), .int .u8 (b7 : Int), .int .u8 (b8 : Int), .int .u8 (b9 : Int), .int .u8 (b10 : Int), .int .u8 (b11 : Int), .int .u8 (b12 : Int), .int .u8 (b13 : Int), .int .u8 (b14 : Int), .int .u8 (b15 : Int)]
  have C := Lib.hid (Try.bytes_Clone_at ⟨w.heap.size, 1, none⟩ 4 16 ([b0, b1, b2, b3].map fun n : Nat => (n : Int)) (w.alloc (.cells #[.bool false, .int .u8 (b0 : Int), .int .u8 (b1 : Int), .int .u8 (b2 : Int), .int .u8 (b3 : Int), .int .u8 (b4 : Int), .int .u8 (b5 : Int), .int .u8 (b6 : Int), .int .u8 (b7 : Int), .int .u8 (b8 : Int), .int .u8 (b9 : Int), .int .u8 (b10 : Int), .int .u8 (b11 : Int), .int .u8 (b12 : Int), .int .u8 (b13 : Int), .int .u8 (b14 : Int), .int .u8 (b15 : Int)] 25)) rfl (by omega) (fun i hi => by
    rw [Addr.add_mid, hb.cell (1 + i)]
    have h : i = 0 ∨ i = 1 ∨ i = 2 ∨ i = 3 := by omega
    rcases h with rfl | rfl | rfl | rfl <;> rfl))
  clear hb
  go_enter Try.func27, Try.ntmps27
  go_wp2_with (go_at_call 30; refine C.out.mono ?_; rintro e w1 ⟨v, rfl, ho, hn, hb1⟩)
  go_ret
  refine ⟨v, rfl, (by have h9 := own_low (b1 := w.heap.size) (by simp) ho; simpa [nus] using h9), ((Below.refl _ w).alloc (Nat.le_refl _) _).trans (hb1.mono (by simp))⟩

end Go.Proofs.Ythjaolngfjfldaa

/- The document's own Valid, as the statements have it. -/
namespace Go.Proofs.Ythjaolngfjfldaa
open Go.RowKit Go.Lib

theorem cell17 (v : Bool) (b0 b1 b2 b3 b4 b5 b6 b7 b8 b9 b10 b11 b12 b13 b14 b15 : Nat) (w : World) (k : Nat) (hk : k < 16) :
    (w.alloc (.cells #[.bool v, .int .u8 (b0 : Int), .int .u8 (b1 : Int), .int .u8 (b2 : Int), .int .u8 (b3 : Int), .int .u8 (b4 : Int), .int .u8 (b5 : Int), .int .u8 (b6 : Int), .int .u8 (b7 : Int), .int .u8 (b8 : Int), .int .u8 (b9 : Int), .int .u8 (b10 : Int), .int .u8 (b11 : Int), .int .u8 (b12 : Int), .int .u8 (b13 : Int), .int .u8 (b14 : Int), .int .u8 (b15 : Int)] 25)).cell? ⟨w.heap.size, 1 + k, none⟩ = some (.int .u8 (([b0, b1, b2, b3, b4, b5, b6, b7, b8, b9, b10, b11, b12, b13, b14, b15].getD k 0 : Nat) : Int)) := by
  rw [(Blk.new w 25 #[.bool v, .int .u8 (b0 : Int), .int .u8 (b1 : Int), .int .u8 (b2 : Int), .int .u8 (b3 : Int), .int .u8 (b4 : Int), .int .u8 (b5 : Int), .int .u8 (b6 : Int), .int .u8 (b7 : Int), .int .u8 (b8 : Int), .int .u8 (b9 : Int), .int .u8 (b10 : Int), .int .u8 (b11 : Int), .int .u8 (b12 : Int), .int .u8 (b13 : Int), .int .u8 (b14 : Int), .int .u8 (b15 : Int)]).cell (1 + k)]
  have h : k = 0 ∨ k = 1 ∨ k = 2 ∨ k = 3 ∨ k = 4 ∨ k = 5 ∨ k = 6 ∨ k = 7 ∨ k = 8 ∨ k = 9 ∨ k = 10 ∨ k = 11 ∨ k = 12 ∨ k = 13 ∨ k = 14 ∨ k = 15 := by omega
  rcases h with rfl | rfl | rfl | rfl | rfl | rfl | rfl | rfl | rfl | rfl | rfl | rfl | rfl | rfl | rfl | rfl <;> rfl

set_option maxRecDepth 100000 in
set_option maxHeartbeats 1000000 in
theorem ref_valid (v : Bool) (b0 b1 b2 b3 b4 b5 b6 b7 b8 b9 b10 b11 b12 b13 b14 b15 : Nat) (w : World) :
    Calls Try.prog 7 #[.agg #[.bool v, .int .u8 (b0 : Int), .int .u8 (b1 : Int), .int .u8 (b2 : Int), .int .u8 (b3 : Int), .int .u8 (b4 : Int), .int .u8 (b5 : Int), .int .u8 (b6 : Int), .int .u8 (b7 : Int), .int .u8 (b8 : Int), .int .u8 (b9 : Int), .int .u8 (b10 : Int), .int .u8 (b11 : Int), .int .u8 (b12 : Int), .int .u8 (b13 : Int), .int .u8 (b14 : Int), .int .u8 (b15 : Int)]] w fun e w' => e = .returned (.bool (vldA v [b0, b1, b2, b3, b4, b5, b6, b7, b8, b9, b10, b11, b12, b13, b14, b15])) ∧ Below w.heap.size w w' := by
  have hc := cell17 v b0 b1 b2 b3 b4 b5 b6 b7 b8 b9 b10 b11 b12 b13 b14 b15 w
  have hc0 : (w.alloc (.cells #[.bool v, .int .u8 (b0 : Int), .int .u8 (b1 : Int), .int .u8 (b2 : Int), .int .u8 (b3 : Int), .int .u8 (b4 : Int), .int .u8 (b5 : Int), .int .u8 (b6 : Int), .int .u8 (b7 : Int), .int .u8 (b8 : Int), .int .u8 (b9 : Int), .int .u8 (b10 : Int), .int .u8 (b11 : Int), .int .u8 (b12 : Int), .int .u8 (b13 : Int), .int .u8 (b14 : Int), .int .u8 (b15 : Int)] 25)).cell? ⟨w.heap.size, 0, none⟩ = some (.bool v) := (Blk.new w 25 _).cell 0
  obtain ⟨bs, hbs⟩ : ∃ bs, bs = [b0, b1, b2, b3, b4, b5, b6, b7, b8, b9, b10, b11, b12, b13, b14, b15] := ⟨_, rfl⟩
  obtain ⟨W, hW⟩ : ∃ W, W = w.alloc (.cells #[.bool v, .int .u8 (b0 : Int), .int .u8 (b1 : Int), .int .u8 (b2 : Int), .int .u8 (b3 : Int), .int .u8 (b4 : Int), .int .u8 (b5 : Int), .int .u8 (b6 : Int), .int .u8 (b7 : Int), .int .u8 (b8 : Int), .int .u8 (b9 : Int), .int .u8 (b10 : Int), .int .u8 (b11 : Int), .int .u8 (b12 : Int), .int .u8 (b13 : Int), .int .u8 (b14 : Int), .int .u8 (b15 : Int)] 25) := ⟨_, rfl⟩
  have HL := Lib.hid (show Below w.heap.size w W by rw [hW]; exact (Below.refl _ w).alloc (Nat.le_refl _) _)
  rw [← hbs] at hc ⊢
  have HB := Lib.hid hbs
  have HC := Lib.hid hc
  have HC0 := Lib.hid hc0
  clear hbs hc hc0
  go_enter Try.func7, Try.ntmps7
  go_wp2
  rw [← hW]
  rw [← hW] at HC HC0
  clear hW
  go_loop [3] (fun i => ∃ k : Nat, 4 ≤ k ∧ k ≤ 16 ∧ i = .int .i64 k ∧ Hid (v = true ∨ ∀ j, 4 ≤ j → j < k → bs.getD j 0 = 0)) (fun i => 16 - (RowKit.intOf i).toNat)
  case atStart => exact ⟨4, by omega, by omega, rfl, Lib.hid (.inr fun j h1 h2 => by omega)⟩
  case round =>
    obtain ⟨k, hk4, hk16, rfl, hall⟩ := hrel
    by_cases hlt : k < 16
    · have hck := HC.out k hlt
      have hcv := HC0.out
      obtain ⟨x, hx⟩ : ∃ x, x = bs.getD k 0 := ⟨_, rfl⟩
      rw [← hx] at hck
      have HX := Lib.hid hx
      clear hx
      cases v with
      | true =>
        go_wp2
        go_round
        case rel => exact ⟨k + 1, by omega, by omega, by go_num, Lib.hid (by simp)⟩
        case measure => simp [RowKit.intOf]; omega
      | false =>
        by_cases h0 : x = 0
        · subst h0
          go_wp2
          go_round
          case rel =>
            refine ⟨k + 1, by omega, by omega, by go_num, Lib.hid (.inr fun j h1 h2 => ?_)⟩
            by_cases hj : j = k
            · rw [hj]; exact HX.out.symm
            · rcases hall.out with h | h
              · cases h
              · exact h j h1 (by omega)
          case measure => simp [RowKit.intOf]; omega
        · have hne : ((x : Int) != 0) = true := by rw [bne_iff_ne]; omega
          have HV := Lib.hid (show vldA false bs = false by
            rcases hq : vldA false bs with _ | _
            · rfl
            · rcases vldA_spec.1 hq with h | h
              · cases h
              · exact absurd (HX.out.trans (h k hk4 hlt)) h0)
          clear h0
          go_wp2
          go_ret
          exact ⟨by rw [HV.out]; rfl, HL.out⟩
    · have HV := Lib.hid (show vldA v bs = true from vldA_spec.2 (by
        rcases hall.out with h | h
        · exact .inl h
        · exact .inr fun i h1 h2 => h i h1 (by omega)))
      go_wp2
      go_ret
      exact ⟨by rw [HV.out]; rfl, HL.out⟩
end Go.Proofs.Ythjaolngfjfldaa

/- Addresses compared. -/
namespace Go.Proofs.Ythjaolngfjfldaa
open Go.RowKit
theorem wf_byte : ∀ n : Fin 256, (Lit.int .u8 (n.1 : Int)).wf = true := by decide +kernel
theorem key5 (d n : Nat) (h : n < 256) : Try.prog.keyLits (d + 1) 5 [.int .u8 (n : Int)] = some [.int .u8 (n : Int)] := by
  unfold Program.keyLits
  rw [Try.underlying5]
  simp [wf_byte ⟨n, h⟩]
theorem key22 (d : Nat) (b0 b1 b2 b3 b4 b5 b6 b7 b8 b9 b10 b11 b12 b13 b14 b15 : Nat) (hb : ∀ n ∈ [b0, b1, b2, b3, b4, b5, b6, b7, b8, b9, b10, b11, b12, b13, b14, b15], n < 256) : Try.prog.keyLits (d + 2) 23 [.int .u8 (b0 : Int), .int .u8 (b1 : Int), .int .u8 (b2 : Int), .int .u8 (b3 : Int), .int .u8 (b4 : Int), .int .u8 (b5 : Int), .int .u8 (b6 : Int), .int .u8 (b7 : Int), .int .u8 (b8 : Int), .int .u8 (b9 : Int), .int .u8 (b10 : Int), .int .u8 (b11 : Int), .int .u8 (b12 : Int), .int .u8 (b13 : Int), .int .u8 (b14 : Int), .int .u8 (b15 : Int)] = some [.int .u8 (b0 : Int), .int .u8 (b1 : Int), .int .u8 (b2 : Int), .int .u8 (b3 : Int), .int .u8 (b4 : Int), .int .u8 (b5 : Int), .int .u8 (b6 : Int), .int .u8 (b7 : Int), .int .u8 (b8 : Int), .int .u8 (b9 : Int), .int .u8 (b10 : Int), .int .u8 (b11 : Int), .int .u8 (b12 : Int), .int .u8 (b13 : Int), .int .u8 (b14 : Int), .int .u8 (b15 : Int)] := by
  unfold Program.keyLits
  rw [Try.underlying23]
  have hc : Try.prog.cellsOf 5 = 1 := by kernel_rfl
  have hc2 : Try.prog.cellsOf 23 = 16 := by kernel_rfl
  simp only [List.mem_cons, List.not_mem_nil, or_false, forall_eq_or_imp, forall_eq] at hb
  obtain ⟨h0, h1, h2, h3, h4, h5, h6, h7, h8, h9, h10, h11, h12, h13, h14, h15⟩ := hb
  simp [hc, hc2, List.range_succ, key5 d b0 h0, key5 d b1 h1, key5 d b2 h2, key5 d b3 h3, key5 d b4 h4, key5 d b5 h5, key5 d b6 h6, key5 d b7 h7, key5 d b8 h8, key5 d b9 h9, key5 d b10 h10, key5 d b11 h11, key5 d b12 h12, key5 d b13 h13, key5 d b14 h14, key5 d b15 h15]
theorem key24 : Try.prog.keyTypeAt 3 25 = true := by kernel_rfl
theorem formed24 (v : Bool) (b0 b1 b2 b3 b4 b5 b6 b7 b8 b9 b10 b11 b12 b13 b14 b15 : Nat) : (Value.agg #[.bool v, .int .u8 (b0 : Int), .int .u8 (b1 : Int), .int .u8 (b2 : Int), .int .u8 (b3 : Int), .int .u8 (b4 : Int), .int .u8 (b5 : Int), .int .u8 (b6 : Int), .int .u8 (b7 : Int), .int .u8 (b8 : Int), .int .u8 (b9 : Int), .int .u8 (b10 : Int), .int .u8 (b11 : Int), .int .u8 (b12 : Int), .int .u8 (b13 : Int), .int .u8 (b14 : Int), .int .u8 (b15 : Int)]).formed Try.prog 25 = true := by kernel_rfl
theorem lits24 (v : Bool) (b0 b1 b2 b3 b4 b5 b6 b7 b8 b9 b10 b11 b12 b13 b14 b15 : Nat) (hb : ∀ n ∈ [b0, b1, b2, b3, b4, b5, b6, b7, b8, b9, b10, b11, b12, b13, b14, b15], n < 256) : Try.prog.keyLits 3 25 [.bool v, .int .u8 (b0 : Int), .int .u8 (b1 : Int), .int .u8 (b2 : Int), .int .u8 (b3 : Int), .int .u8 (b4 : Int), .int .u8 (b5 : Int), .int .u8 (b6 : Int), .int .u8 (b7 : Int), .int .u8 (b8 : Int), .int .u8 (b9 : Int), .int .u8 (b10 : Int), .int .u8 (b11 : Int), .int .u8 (b12 : Int), .int .u8 (b13 : Int), .int .u8 (b14 : Int), .int .u8 (b15 : Int)] = some [.bool v, .int .u8 (b0 : Int), .int .u8 (b1 : Int), .int .u8 (b2 : Int), .int .u8 (b3 : Int), .int .u8 (b4 : Int), .int .u8 (b5 : Int), .int .u8 (b6 : Int), .int .u8 (b7 : Int), .int .u8 (b8 : Int), .int .u8 (b9 : Int), .int .u8 (b10 : Int), .int .u8 (b11 : Int), .int .u8 (b12 : Int), .int .u8 (b13 : Int), .int .u8 (b14 : Int), .int .u8 (b15 : Int)] := by
  unfold Program.keyLits
  rw [Try.underlying25]
  have hc : Try.prog.cellsOf 4 = 1 := by kernel_rfl
  have hc2 : Try.prog.cellsOf 23 = 16 := by kernel_rfl
  have hc3 : Try.prog.cellsOf 25 = 17 := by kernel_rfl
  have h4 : Try.prog.keyLits 2 4 [.bool v] = some [.bool v] := by unfold Program.keyLits; rw [Try.underlying4]
  simp [hc, hc2, hc3, h4, key22 0 b0 b1 b2 b3 b4 b5 b6 b7 b8 b9 b10 b11 b12 b13 b14 b15 hb]
theorem eq_same (v : Bool) (b0 b1 b2 b3 b4 b5 b6 b7 b8 b9 b10 b11 b12 b13 b14 b15 : Nat) (hb : ∀ n ∈ [b0, b1, b2, b3, b4, b5, b6, b7, b8, b9, b10, b11, b12, b13, b14, b15], n < 256) (w : World) :
    (Op.equalIn 10000 25 (.agg #[.bool v, .int .u8 (b0 : Int), .int .u8 (b1 : Int), .int .u8 (b2 : Int), .int .u8 (b3 : Int), .int .u8 (b4 : Int), .int .u8 (b5 : Int), .int .u8 (b6 : Int), .int .u8 (b7 : Int), .int .u8 (b8 : Int), .int .u8 (b9 : Int), .int .u8 (b10 : Int), .int .u8 (b11 : Int), .int .u8 (b12 : Int), .int .u8 (b13 : Int), .int .u8 (b14 : Int), .int .u8 (b15 : Int)]) (.agg #[.bool v, .int .u8 (b0 : Int), .int .u8 (b1 : Int), .int .u8 (b2 : Int), .int .u8 (b3 : Int), .int .u8 (b4 : Int), .int .u8 (b5 : Int), .int .u8 (b6 : Int), .int .u8 (b7 : Int), .int .u8 (b8 : Int), .int .u8 (b9 : Int), .int .u8 (b10 : Int), .int .u8 (b11 : Int), .int .u8 (b12 : Int), .int .u8 (b13 : Int), .int .u8 (b14 : Int), .int .u8 (b15 : Int)])).run Try.prog w = .ok true w := by
  obtain ⟨r, hr, he⟩ := run_equalIn_deep (P := Try.prog) 9997 3 25 key24 w 3 3 _ _ _ _ (formed24 v b0 b1 b2 b3 b4 b5 b6 b7 b8 b9 b10 b11 b12 b13 b14 b15) (formed24 v b0 b1 b2 b3 b4 b5 b6 b7 b8 b9 b10 b11 b12 b13 b14 b15) (lits24 v b0 b1 b2 b3 b4 b5 b6 b7 b8 b9 b10 b11 b12 b13 b14 b15 hb) (lits24 v b0 b1 b2 b3 b4 b5 b6 b7 b8 b9 b10 b11 b12 b13 b14 b15 hb)
  have e : r = true := he.2 rfl
  subst e
  exact hr
theorem eq_zero (w : World) : (Op.equalIn 10000 25 (.agg #[.bool false, .int .u8 0, .int .u8 0, .int .u8 0, .int .u8 0, .int .u8 0, .int .u8 0, .int .u8 0, .int .u8 0, .int .u8 0, .int .u8 0, .int .u8 0, .int .u8 0, .int .u8 0, .int .u8 0, .int .u8 0, .int .u8 0]) (.agg #[.bool false, .int .u8 0, .int .u8 0, .int .u8 0, .int .u8 0, .int .u8 0, .int .u8 0, .int .u8 0, .int .u8 0, .int .u8 0, .int .u8 0, .int .u8 0, .int .u8 0, .int .u8 0, .int .u8 0, .int .u8 0, .int .u8 0])).run Try.prog w = .ok true w := by kernel_rfl
theorem eq_ten (w : World) : (Op.equalIn 10000 25 (.agg #[.bool false, .int .u8 10, .int .u8 0, .int .u8 0, .int .u8 1, .int .u8 0, .int .u8 0, .int .u8 0, .int .u8 0, .int .u8 0, .int .u8 0, .int .u8 0, .int .u8 0, .int .u8 0, .int .u8 0, .int .u8 0, .int .u8 0]) (.agg #[.bool false, .int .u8 10, .int .u8 0, .int .u8 0, .int .u8 1, .int .u8 0, .int .u8 0, .int .u8 0, .int .u8 0, .int .u8 0, .int .u8 0, .int .u8 0, .int .u8 0, .int .u8 0, .int .u8 0, .int .u8 0, .int .u8 0])).run Try.prog w = .ok true w := by kernel_rfl
end Go.Proofs.Ythjaolngfjfldaa

/- addr.Bytes, addr.From, the statements' Valid, and whether two are one, at an address that is told by its bytes. -/
namespace Go.Proofs.Ythjaolngfjfldaa
open Go.RowKit Go.Lib

theorem ref_adr (v : Bool) (bs : List Nat) (hl : bs.length = 16) (w : World) :
    Calls Try.prog 7 #[adr v bs] w fun e w' => e = .returned (.bool (vldA v bs)) ∧ Below w.heap.size w w' := by
  obtain ⟨b0, b1, b2, b3, b4, b5, b6, b7, b8, b9, b10, b11, b12, b13, b14, b15, rfl⟩ := list16 bs hl
  exact ref_valid v b0 b1 b2 b3 b4 b5 b6 b7 b8 b9 b10 b11 b12 b13 b14 b15 w
/-- The bytes of an address. -/
def bytesA (v : Bool) (bs : List Nat) : List Nat := if v then bs else bs.take 4
theorem bytes_own (v : Bool) (bs : List Nat) (hl : bs.length = 16) (w : World) :
    Calls Try.prog 27 #[adr v bs] w fun e w' => ∃ z, e = .returned z ∧ w'.ownsRow w.heap.size 5 1 z (bytesA v bs).length (nus .u8 (bytesA v bs)) ∧ Below w.heap.size w w' := by
  obtain ⟨b0, b1, b2, b3, b4, b5, b6, b7, b8, b9, b10, b11, b12, b13, b14, b15, rfl⟩ := list16 bs hl
  cases v with
  | true => exact bytes_six b0 b1 b2 b3 b4 b5 b6 b7 b8 b9 b10 b11 b12 b13 b14 b15 w
  | false => exact bytes_four b0 b1 b2 b3 b4 b5 b6 b7 b8 b9 b10 b11 b12 b13 b14 b15 w
theorem bytes_adr (v : Bool) (bs : List Nat) (hl : bs.length = 16) (w : World) :
    Calls Try.prog 27 #[adr v bs] w fun e w' => ∃ z, e = .returned z ∧ Rd w' z (nus .u8 (bytesA v bs)) ∧ Below w.heap.size w w' :=
  (bytes_own v bs hl w).mono fun _ _ ⟨z, h1, h2, h3⟩ => ⟨z, h1, Rd.own h2, h3⟩
theorem from_adr (v : Bool) (bs : List Nat) (hl : bs.length = 16) (hv : validA v bs) (z : Value) (w : World) (hr : Rd w z (nus .u8 (bytesA v bs))) :
    Calls Try.prog 21 #[z] w fun e w' => e = .returned (.tuple #[adr v bs, .int .i64 0]) ∧ Below w.heap.size w w' := by
  cases v with
  | true =>
    have h := from_ok z true bs w hr (.inr ⟨hl, rfl⟩)
    rw [hl] at h
    simpa using h
  | false =>
    have h4 : (bs.take 4).length = 4 := by simp [hl]
    have h := from_ok z false (bs.take 4) w hr (.inl ⟨h4, rfl⟩)
    have e : bs.take 4 ++ List.replicate (16 - (bs.take 4).length) 0 = bs := by
      rw [h4]
      rcases hv with hv | hv
      · cases hv
      · refine ext_getD _ _ 0 (by simp [hl]) fun i hi => ?_
        have hi16 : i < 16 := by simpa [hl] using hi
        by_cases h : i < 4
        · rw [List.getD_eq_getElem?_getD, List.getElem?_append_left (by rw [h4]; exact h), List.getElem?_take_of_lt h, ← List.getD_eq_getElem?_getD]
        · rw [hv i (by omega) hi16, List.getD_eq_getElem?_getD, List.getElem?_append_right (by rw [h4]; omega), h4, List.getElem?_replicate]
          split <;> rfl
    rw [e] at h
    exact h
theorem eq_adr (v : Bool) (bs : List Nat) (hl : bs.length = 16) (hb : ∀ n ∈ bs, n < 256) (w : World) : (Op.equalIn 10000 25 (adr v bs) (adr v bs)).run Try.prog w = .ok true w := by
  obtain ⟨b0, b1, b2, b3, b4, b5, b6, b7, b8, b9, b10, b11, b12, b13, b14, b15, rfl⟩ := list16 bs hl
  exact eq_same v b0 b1 b2 b3 b4 b5 b6 b7 b8 b9 b10 b11 b12 b13 b14 b15 hb w
end Go.Proofs.Ythjaolngfjfldaa

/- A header's cells. -/
namespace Go.Proofs.Ythjaolngfjfldaa
open Go.RowKit

/-- The cells of an address of IPv4: four bytes. -/
def a4 (bs : List Nat) : Array Value := cellsA false (bs ++ List.replicate (16 - bs.length) 0)
theorem a4_size (bs : List Nat) (h : bs.length ≤ 16) : (a4 bs).size = 17 := by
  unfold a4; rw [cellsA_size, List.length_append, List.length_replicate]; omega
theorem a4_all (bs : List Nat) : (a4 bs).all (·.oneCell') = true := cellsA_all _ _
/-- The cells of a header: its size, its length, the protocol, two addresses. -/
def hcells (s l p : Nat) (S D : Array Value) : Array Value := (Value.int .i64 (s : Int) :: .int .i64 (l : Int) :: .int .u8 (p : Int) :: (S.toList ++ D.toList)).toArray
theorem hcells_size (s l p : Nat) (S D : Array Value) (hS : S.size = 17) (hD : D.size = 17) : (hcells s l p S D).size = 37 := by
  simp [hcells, hS, hD]
theorem hcells_all (s l p : Nat) (S D : Array Value) (hS : S.all (·.oneCell') = true) (hD : D.all (·.oneCell') = true) : (hcells s l p S D).all (·.oneCell') = true := by
  rw [Array.all_eq_true_iff_forall_mem] at *
  intro x hx
  simp only [hcells, List.mem_toArray, List.mem_cons, List.mem_append, Array.mem_toList_iff] at hx
  rcases hx with rfl | rfl | rfl | h | h
  · rfl
  · rfl
  · rfl
  · exact hS x h
  · exact hD x h
/-- Nothing. -/
def h0 : Array Value := hcells 0 0 0 (a4 [0, 0, 0, 0]) (a4 [0, 0, 0, 0])
theorem h0_eq : h0 = #[.int .i64 0, .int .i64 0, .int .u8 0, .bool false, .int .u8 0, .int .u8 0, .int .u8 0, .int .u8 0, .int .u8 0, .int .u8 0, .int .u8 0, .int .u8 0, .int .u8 0, .int .u8 0, .int .u8 0, .int .u8 0, .int .u8 0, .int .u8 0, .int .u8 0, .int .u8 0, .bool false, .int .u8 0, .int .u8 0, .int .u8 0, .int .u8 0, .int .u8 0, .int .u8 0, .int .u8 0, .int .u8 0, .int .u8 0, .int .u8 0, .int .u8 0, .int .u8 0, .int .u8 0, .int .u8 0, .int .u8 0, .int .u8 0] := rfl
theorem h0_size : h0.size = 37 := rfl
theorem h0_all : h0.all (·.oneCell') = true := hcells_all _ _ _ _ _ (a4_all _) (a4_all _)
theorem arr17 (c : Array Value) (h : c.size = 17) : ∃ x0 x1 x2 x3 x4 x5 x6 x7 x8 x9 x10 x11 x12 x13 x14 x15 x16, c = #[x0, x1, x2, x3, x4, x5, x6, x7, x8, x9, x10, x11, x12, x13, x14, x15, x16] := by
  obtain ⟨l⟩ := c
  match l, h with
  | [x0, x1, x2, x3, x4, x5, x6, x7, x8, x9, x10, x11, x12, x13, x14, x15, x16], _ => exact ⟨x0, x1, x2, x3, x4, x5, x6, x7, x8, x9, x10, x11, x12, x13, x14, x15, x16, rfl⟩
set_option maxRecDepth 100000 in
theorem built_head (s l p : Nat) (S D : Array Value) (hS : S.size = 17) (hD : D.size = 17) : Try.prog.built 29 [(0, .int .i64 (s : Int)), (1, .int .i64 (l : Int)), (2, .int .u8 (p : Int)), (3, .agg S), (4, .agg D)] = some (hcells s l p S D) := by
  obtain ⟨x0, x1, x2, x3, x4, x5, x6, x7, x8, x9, x10, x11, x12, x13, x14, x15, x16, rfl⟩ := arr17 S hS
  obtain ⟨y0, y1, y2, y3, y4, y5, y6, y7, y8, y9, y10, y11, y12, y13, y14, y15, y16, rfl⟩ := arr17 D hD
  kernel_rfl
theorem i29 : (Try.prog.info? 29).map (·.size) = some 37 := by kernel_rfl
end Go.Proofs.Ythjaolngfjfldaa

/- The parts of a header's cells. -/
namespace Go.Proofs.Ythjaolngfjfldaa
open Go.RowKit
theorem hcells_src (s l p : Nat) (S D : Array Value) : ((hcells s l p S D).toList.drop 3).take S.toList.length = S.toList := by
  unfold hcells
  simp
theorem hcells_dst (s l p : Nat) (S D : Array Value) (hS : S.size = 17) : ((hcells s l p S D).toList.drop 20).take D.toList.length = D.toList := by
  have e : (hcells s l p S D).toList.drop 20 = D.toList := by
    unfold hcells
    show (S.toList ++ D.toList).drop 17 = D.toList
    rw [List.drop_append, List.drop_eq_nil_of_le (by simp [hS])]
    simp [hS]
  rw [e, List.take_length]
end Go.Proofs.Ythjaolngfjfldaa

/- Steps of a region that only reads: a block that is known whole is loaded; cells are built. Nothing of the program. -/
namespace Go.Proofs.Ythjaolngfjfldaa
open Go.RowKit Go.Sort

theorem still_load {P : Program} {w : World} {K : Act → Prop} {o : Oper} {a : Act} (ty : TypeId) (x : Operand) (ho : o.op = .load ty x) (p : Addr) (hx : a.eval x = .pointer (some p)) (v : Value)
    (hl : (loadVar ty p).run P w = .ok v w) (h : K (a.put o.dst v)) : o.still P a w K := by
  unfold Oper.still execOp
  simp only [ho, hx, Instr.loadAt, Instr.sureAddr, Sem.run_bind, Sem.run_pure, Result.andThen_ok, hl]
  exact ⟨rfl, h⟩
theorem still_build {P : Program} {w : World} {K : Act → Prop} {o : Oper} {a : Act} (t : TypeId) (parts : Array (Nat × Operand)) (ho : o.op = .build t parts) (cells : Array Value)
    (hf : P.built t (parts.map fun (i, x) => (i, a.eval x)).toList = some cells) (h : K (a.put o.dst (.agg cells))) : o.still P a w K := by
  unfold Oper.still execOp
  simp only [ho, Sem.run_bind, run_build w t _ cells hf, Result.andThen_ok]
  exact ⟨rfl, h⟩
theorem still_build2 {P : Program} {w : World} {K : Act → Prop} {o : Oper} {a : Act} (t : TypeId) (parts : Array (Nat × Operand)) (ho : o.op = .build t parts) (vals : Array (Nat × Value)) (hv : (parts.map fun (i, x) => (i, a.eval x)) = vals) (cells : Array Value)
    (hf : P.built t vals.toList = some cells) (h : K (a.put o.dst (.agg cells))) : o.still P a w K :=
  still_build t parts ho cells (by rw [hv]; exact hf) h
theorem wpList_built {P : Program} {ops : Array Oper} {rest : List Oper} {op : Oper} {a : Act} {w : World} {Q : Exit → Act → World → Prop} (hg : op.guard = none) (t : TypeId) (parts : Array (Nat × Operand)) (ho : op.op = .build t parts) (cells : Array Value)
    (hf : P.built t (parts.map fun (i, x) => (i, a.eval x)).toList = some cells)
    (h : wpList P ops Q rest (a.put op.dst (.agg cells)) w) : wpList P ops Q (op :: rest) a w :=
  wpList_build hg t parts ho (by rw [hf]; rfl) (by rw [hf]; exact h)
theorem exec_load {P : Program} {w : World} {o : Oper} {a : Act} (ty : TypeId) (x : Operand) (ho : o.op = .load ty x) (p : Addr) (hx : a.eval x = .pointer (some p)) (v : Value)
    (hl : (loadVar ty p).run P w = .ok v w) : (execOp a.eval o).run P w = .ok (.value v) w := by
  unfold execOp
  simp only [ho, hx, Instr.loadAt, Instr.sureAddr, Sem.run_bind, Sem.run_pure, Result.andThen_ok, hl]
theorem exec_build {P : Program} {w : World} {o : Oper} {a : Act} (t : TypeId) (parts : Array (Nat × Operand)) (ho : o.op = .build t parts) (vals : Array (Nat × Value)) (hv : (parts.map fun (i, x) => (i, a.eval x)) = vals) (cells : Array Value)
    (hf : P.built t vals.toList = some cells) : (execOp a.eval o).run P w = .ok (.value (.agg cells)) w := by
  subst hv
  unfold execOp
  simp only [ho, Sem.run_bind, run_build w t _ cells hf, Result.andThen_ok, Sem.run_pure]
/-- A part of a block that is known whole is loaded. -/
theorem run_part_load {P : Program} {w : World} {g : Nat} {t : TypeId} {cs : Array Value} (ty : TypeId) (off : Nat) (ps : List Value) (d : TypeDesc) (hc : Blk w g t cs) (hp : (cs.toList.drop off).take ps.length = ps) (hu : P.underlying ty = some d) (hd : d.isRow = true) (hi : (P.info? ty).map (·.size) = some ps.length) :
    (loadVar ty ⟨g, off, none⟩).run P w = .ok (.agg ps.toArray) w :=
  run_loadVar_mid (P := P) w g off ty ps d (fun j v hj => by
    rw [hc.cell (off + j), ← Array.getElem?_toList, ← List.getElem?_drop]
    have hjl : j < ps.length := (List.getElem?_eq_some_iff.1 hj).1
    rw [← List.getElem?_take_of_lt hjl, hp]; exact hj) hu hd hi
end Go.Proofs.Ythjaolngfjfldaa

/- A load whose value is known, under a guard that holds. Nothing of the program. -/
namespace Go.Proofs.Ythjaolngfjfldaa
open Go.RowKit
theorem wpList_load_want {P : Program} {ops : Array Oper} {rest : List Oper} {op : Oper} {a : Act} {w : World} {Q : Exit → Act → World → Prop} (hw : Region.wanted op (yielded ops a.tmps) = true) (ty : TypeId) (x : Operand) (ho : op.op = .load ty x)
    (p : Addr) (hx : a.eval x = .pointer (some p)) (v : Value) (hl : (loadVar ty p).run P w = .ok v w) (h : wpList P ops Q rest (a.put op.dst v) w) : wpList P ops Q (op :: rest) a w :=
  BigFrame.wpList_want hw fun K hK => by
    unfold Oper.wp
    simp only [exec_load ty x ho p hx v hl]
    exact hK _ _ h
end Go.Proofs.Ythjaolngfjfldaa

/- ipfour.Read. -/
namespace Go.Proofs.Ythjaolngfjfldaa
open Go.RowKit

/-- What is read: the cells of the header. -/
def hd (zs : List Nat) : Array Value := if ff zs = 0 then hcells (hs zs) (u2 zs 2) (zs.getD 9 0) (a4 ((zs.drop 12).take 4)) (a4 ((zs.drop 16).take 4)) else h0

set_option maxHeartbeats 1000000 in
theorem read_no (v : Value) (zs : List Nat) (w : World) (hr : Rd w v (nus .u8 zs)) (hb : ∀ c ∈ zs, c < 256) (h : ff zs ≠ 0) :
    Calls Try.prog 9 #[v] w fun e w' => e = .returned (.tuple #[.agg h0, .int .i64 (ff zs : Nat)]) ∧ Below w.heap.size w w' := by
  have B0 := (Below.refl w.heap.size w).alloc (Nat.le_refl _) (.cells h0 29)
  have HF := Lib.hid (fault_any v zs _ (hr.below B0) hb)
  have hlt := ff_lt zs
  have HN := Lib.hid (Blk.new w 29 h0)
  have HB := Lib.hid B0
  obtain ⟨a, cap, rfl, -, -⟩ := rd_shape hr
  obtain ⟨r, hre⟩ : ∃ r, r = ff zs := ⟨_, rfl⟩
  rw [← hre] at HF h hlt ⊢
  generalize zs.length = n at *
  clear hr hb hre B0
  go_enter Try.func9, Try.ntmps9
  go_wp2_with fail
  refine HF.out.mono ?_; rintro e W1 ⟨rfl, hb⟩
  have HN1 := Lib.hid (HN.out.below hb HN.out.lt)
  have HB1 := Lib.hid (HB.out.trans (hb.mono HB.out.size))
  clear hb HN HB HF
  have g0 : ((r : Int) != 0) = true := by simp; omega
  clear h
  have Z := Lib.hid (i29.trans (congrArg some h0_size.symm))
  have A := Lib.hid h0_all
  go_wp2_with ((refine wpList_blk_store (op := ⟨none, .store 29 (.tmp 2) (.tmp 13), _, _, _, _⟩) rfl 29 (.tmp 2) (.tmp 13) rfl w.heap.size h0 (by rfl) (by rfl) HN1.out rfl Z.out A.out ?_))
  intro W2 hA hF hB
  have HB2 := Lib.hid (HB1.out.trans (hB _ (Nat.le_refl _)))
  have HA := Lib.hid hA
  clear hA hF hB
  go_wp2
  have hrun := run_blk_load (P := Try.prog) 29 w.heap.size _ HA.out Try.underlying29 rfl Z.out
  exact bodyPost_ret (results_cell_tmp 2 29 3 w.heap.size _ Try.results9 rfl hrun) rfl ⟨rfl, HB2.out⟩

theorem ff_yes (zs : List Nat) (h : ff zs = 0) : 20 ≤ zs.length ∧ zs.getD 0 0 / 16 = 4 ∧ 20 ≤ hs zs ∧ hs zs ≤ u2 zs 2 ∧ u2 zs 2 ≤ zs.length ∧ ck (zs.take (hs zs)) = 0 ∧ u2 zs 6 % 16384 = 0 ∧ (zs.getD 9 0 = 6 ∨ zs.getD 9 0 = 17) := by
  unfold ff at h
  repeat' split at h
  all_goals omega

set_option maxHeartbeats 1000000 in
theorem read_yes (v : Value) (zs : List Nat) (w : World) (hr : Rd w v (nus .u8 zs)) (hb : ∀ c ∈ zs, c < 256) (h : ff zs = 0) :
    Calls Try.prog 9 #[v] w fun e w' => e = .returned (.tuple #[.agg (hd zs), .int .i64 0]) ∧ Below w.heap.size w w' := by
  obtain ⟨h20, -, -, -, -, -, -, -⟩ := ff_yes zs h
  have B0 := (Below.refl w.heap.size w).alloc (Nat.le_refl _) (.cells h0 29)
  have HF := Lib.hid (fault_any v zs _ (hr.below B0) hb)
  rw [h] at HF
  have HN := Lib.hid (Blk.new w 29 h0)
  have HB := Lib.hid B0
  have HR := Lib.hid hr
  obtain ⟨a, cap, rfl, h1, h2⟩ := rd_shape hr
  obtain ⟨b, off, rfl, hc⟩ := hr.cells (by omega)
  obtain ⟨S, hS⟩ : ∃ S, S = a4 ((zs.drop 12).take 4) := ⟨_, rfl⟩
  obtain ⟨D, hD⟩ : ∃ D, D = a4 ((zs.drop 16).take 4) := ⟨_, rfl⟩
  have l1 : ((zs.drop 12).take 4).length = 4 := by simp; omega
  have l2 : ((zs.drop 16).take 4).length = 4 := by simp; omega
  have C1 := Lib.hid (fun w' (hw : Rd w' (.slice (some ⟨b, off + 12, none⟩) 4 (cap - 12)) (nus .u8 ((zs.drop 12).take 4))) => from_ok _ false ((zs.drop 12).take 4) w' hw (.inl ⟨l1, rfl⟩))
  have C2 := Lib.hid (fun w' (hw : Rd w' (.slice (some ⟨b, off + 16, none⟩) 4 (cap - 16)) (nus .u8 ((zs.drop 16).take 4))) => from_ok _ false ((zs.drop 16).take 4) w' hw (.inl ⟨l2, rfl⟩))
  have R1 := Lib.hid (hr.sub 12 4 (by omega))
  have R2 := Lib.hid (hr.sub 16 4 (by omega))
  rw [show adr false ((zs.drop 12).take 4 ++ List.replicate (16 - ((zs.drop 12).take 4).length) 0) = .agg S from by rw [hS]; rfl] at C1
  rw [show adr false ((zs.drop 16).take 4 ++ List.replicate (16 - ((zs.drop 16).take 4).length) 0) = .agg D from by rw [hD]; rfl] at C2
  have hsS := a4_size ((zs.drop 12).take 4) (by omega)
  have hsD := a4_size ((zs.drop 16).take 4) (by omega)
  have haS := a4_all ((zs.drop 12).take 4)
  have haD := a4_all ((zs.drop 16).take 4)
  have hh : hd zs = hcells (hs zs) (u2 zs 2) (zs.getD 9 0) S D := by unfold hd; rw [if_pos h, hS, hD]
  rw [← hS] at hsS haS
  rw [← hD] at hsD haD
  have c9 := hc 9 (by omega)
  unfold maxLen at h2
  clear hc l1 l2 hS hD B0
  generalize (zs.drop 12).take 4 = Sb at *
  generalize (zs.drop 16).take 4 = Db at *
  have HSS := Lib.hid (i24.trans (congrArg some hsS.symm))
  have HSD := Lib.hid (i24.trans (congrArg some hsD.symm))
  have HAS := Lib.hid haS
  have HAD := Lib.hid haD
  have HZS := Lib.hid (hsS.trans (cellsA_size false (List.replicate 16 0)).symm)
  have HZD := Lib.hid (hsD.trans (cellsA_size false (List.replicate 16 0)).symm)
  have CS := Lib.hid (fun W (hw : Rd W (.slice (some ⟨b, off, none⟩) zs.length cap) (nus .u8 zs)) => size_any _ zs W hw hb (by omega))
  have CW := Lib.hid (fun W (hw : Rd W (.slice (some ⟨b, off, none⟩) zs.length cap) (nus .u8 zs)) => word_any _ 2 zs W hw hb (by omega))
  have hbuild := built_head (hs zs) (u2 zs 2) (zs.getD 9 0) S D hsS hsD
  have HBD := Lib.hid hbuild
  have hcs := hcells_size (hs zs) (u2 zs 2) (zs.getD 9 0) S D hsS hsD
  have hca := hcells_all (hs zs) (u2 zs 2) (zs.getD 9 0) S D haS haD
  rw [hh]
  have hl := u2_lt zs 2 hb
  have hs4 := hs_lt zs
  clear hbuild hh hb h hr
  generalize hs zs = s at *
  generalize u2 zs 2 = l at *
  generalize zs.getD 9 0 = p at *
  generalize zs.length = n at *
  obtain ⟨hc, hhc⟩ : ∃ x, x = hcells s l p S D := ⟨_, rfl⟩
  rw [← hhc] at HBD hcs hca ⊢
  have Z := Lib.hid (i29.trans (congrArg some hcs.symm))
  have Z0 := Lib.hid (hcs.trans h0_size.symm)
  have AC := Lib.hid hca
  have h9n : (9 : Int) < (n : Int) := by omega
  have hlw : IntKind.i64.wrap (l : Int) = (l : Int) := by rw [IntKind.wrap_i64]; omega
  clear hcs hca hhc hsS hsD haS haD
  go_enter Try.func9, Try.ntmps9
  go_wp2_with fail
  refine HF.out.mono ?_; rintro e W1 ⟨rfl, hb1⟩
  have HN1 := Lib.hid (HN.out.below hb1 HN.out.lt)
  have HB1 := Lib.hid (HB.out.trans (hb1.mono HB.out.size))
  clear hb1 HN HB HF
  go_wp2_with fail
  refine (C1.out _ (R1.out.below HB1.out)).mono ?_; rintro e W2 ⟨rfl, hb1⟩
  have K1 := Lib.hid (HB1.out.trans (hb1.mono HB1.out.size))
  have N1 := Lib.hid (HN1.out.below hb1 HN1.out.lt)
  clear hb1 HN1 HB1
  go_wp2_with ((refine wpList_blk_store (op := ⟨none, .store 25 (.tmp 5) (.tmp 19), _, _, _, _⟩) rfl 25 (.tmp 5) (.tmp 19) rfl W2.heap.size S (by rfl) (by rfl) (Blk.new W2 25 (cellsA false (List.replicate 16 0))) HZS.out HSS.out HAS.out ?_))
  intro W3 hA hF hB
  have K2 := Lib.hid ((K1.out.alloc K1.out.size (.cells (cellsA false (List.replicate 16 0)) 25)).trans (hB _ K1.out.size))
  have N2 := Lib.hid ((N1.out.alloc (.cells (cellsA false (List.replicate 16 0)) 25)).below (hB _ (Nat.le_refl _)) N1.out.lt)
  have A2 := Lib.hid hA
  clear hA hF hB K1 N1
  go_wp2_with fail
  refine (C2.out _ (R2.out.below K2.out)).mono ?_; rintro e W4 ⟨rfl, hb1⟩
  have K3 := Lib.hid (K2.out.trans (hb1.mono K2.out.size))
  have N3 := Lib.hid (N2.out.below hb1 N2.out.lt)
  have A3 := Lib.hid (A2.out.below hb1 A2.out.lt)
  clear hb1 K2 N2 A2 C1 C2 R1 R2
  go_wp2_with ((refine wpList_blk_store (op := ⟨none, .store 25 (.tmp 7) (.tmp 25), _, _, _, _⟩) rfl 25 (.tmp 7) (.tmp 25) rfl W4.heap.size D (by rfl) (by rfl) (Blk.new W4 25 (cellsA false (List.replicate 16 0))) HZD.out HSD.out HAD.out ?_))
  intro W5 hA hF hB
  have K4 := Lib.hid ((K3.out.alloc K3.out.size (.cells (cellsA false (List.replicate 16 0)) 25)).trans (hB _ K3.out.size))
  have N4 := Lib.hid ((N3.out.alloc (.cells (cellsA false (List.replicate 16 0)) 25)).below (hB _ (Nat.le_refl _)) N3.out.lt)
  have A4 := Lib.hid ((A3.out.alloc (.cells (cellsA false (List.replicate 16 0)) 25)).below (hB _ (Nat.le_refl _)) A3.out.lt)
  have D4 := Lib.hid hA
  clear hA hF hB K3 N3 A3
  go_wp2_with fail
  refine wp_region_still_tail 11 (by kernel_rfl) (by kernel_rfl) ?_
  change wpStill _ _ W5.drew (fun a' => wpList _ _ _ _ a' W5.drew) _ _
  have K5 := Lib.hid K4.out.drew
  have N5 := Lib.hid N4.out.drew
  have A5 := Lib.hid A4.out.drew
  have D5 := Lib.hid D4.out.drew
  generalize W5.drew = W6 at K5 N5 A5 D5 ⊢
  clear K4 N4 A4 D4
  have hb0 : b < w.heap.size := by
    rcases Nat.lt_or_ge b w.heap.size with h | h
    · exact h
    · simp [World.cell?, Array.getElem?_eq_none h] at c9
  have c9' := (K5.out.cell (p := ⟨b, off + 9, none⟩) hb0).trans c9
  have hA := run_blk_load (P := Try.prog) 25 W2.heap.size _ A5.out Try.underlying25 rfl HSS.out
  have hD := run_blk_load (P := Try.prog) 25 W4.heap.size _ D5.out Try.underlying25 rfl HSD.out
  have HA := Lib.hid hA
  have HD := Lib.hid hD
  clear hA hD
  simp only [List.take_succ_cons, List.take_zero, List.drop_succ_cons, List.drop_zero]
  still_step
  still_call ((CS.out _ (HR.out.below K5.out)).mono fun e w' h => ⟨h.1, h.2.symm⟩)
  still_step
  still_call ((CW.out _ (HR.out.below K5.out)).mono fun e w' h => ⟨h.1, h.2.symm⟩)
  still_step
  still_step
  still_step
  still_step

  refine wpStill_step (fun K hK => ?_)
  rw [if_pos (by rfl)]
  refine still_load 25 (.tmp 5) rfl _ rfl (.agg S) HA.out (hK _ ?_)
  clear hK K
  refine wpStill_step (fun K hK => ?_)
  rw [if_pos (by rfl)]
  refine still_load 25 (.tmp 7) rfl _ rfl (.agg D) HD.out (hK _ ?_)
  clear hK K
  refine wpStill_step (fun K hK => ?_)
  rw [if_pos (by rfl)]
  refine still_build2 29 _ rfl #[(0, .int .i64 (s : Int)), (1, .int .i64 (l : Int)), (2, .int .u8 (p : Int)), (3, .agg S), (4, .agg D)] (by kernel_rfl) hc HBD.out (hK _ ?_)
  clear hK K
  refine wpStill_nil ?_
  simp only [Act.put, List.setIfInBounds_toArray, List.set_cons_zero, List.set_cons_succ]
  go_wp2_with ((refine wpList_blk_store (op := ⟨none, .store 29 (.tmp 2) (.tmp 37), _, _, _, _⟩) rfl 29 (.tmp 2) (.tmp 37) rfl w.heap.size hc (by rfl) (by rfl) N5.out Z0.out Z.out AC.out ?_))
  intro W7 hA hF hB
  have K7 := Lib.hid (K5.out.trans (hB _ (Nat.le_refl _)))
  have HA := Lib.hid hA
  clear hA hF hB
  go_wp2
  have hrun := run_blk_load (P := Try.prog) 29 w.heap.size _ HA.out Try.underlying29 rfl Z.out
  exact bodyPost_ret (results_cell_tmp 2 29 3 w.heap.size _ Try.results9 rfl hrun) rfl ⟨rfl, K7.out⟩
theorem read_any (v : Value) (zs : List Nat) (w : World) (hr : Rd w v (nus .u8 zs)) (hb : ∀ c ∈ zs, c < 256) :
    Calls Try.prog 9 #[v] w fun e w' => e = .returned (.tuple #[.agg (hd zs), .int .i64 (ff zs : Nat)]) ∧ Below w.heap.size w w' := by
  by_cases h : ff zs = 0
  · have := read_yes v zs w hr hb h
    rw [h]; exact this
  · have := read_no v zs w hr hb h
    have e : hd zs = h0 := by unfold hd; rw [if_neg h]
    rw [e]; exact this
end Go.Proofs.Ythjaolngfjfldaa

/- bazaarlaw5.same: two headers that are one. -/
namespace Go.Proofs.Ythjaolngfjfldaa
open Go.RowKit

theorem a4_eq (bs : List Nat) (h : bs.length ≤ 16) (hb : ∀ n ∈ bs, n < 256) (w : World) : (Op.equalIn 10000 25 (.agg (a4 bs)) (.agg (a4 bs))).run Try.prog w = .ok true w := by
  refine eq_adr false _ ?_ ?_ w
  · rw [List.length_append, List.length_replicate]; omega
  · intro n hn
    rcases List.mem_append.1 hn with h | h
    · exact hb n h
    · have := (List.mem_replicate.1 h).2; omega

set_option maxRecDepth 100000 in
set_option maxHeartbeats 2000000 in
theorem same_cells (s l p : Nat) (S D : Array Value) (w : World) (hS : S.size = 17) (hD : D.size = 17)
    (hs : ∀ W, (Op.equalIn 10000 25 (.agg S) (.agg S)).run Try.prog W = .ok true W) (hd : ∀ W, (Op.equalIn 10000 25 (.agg D) (.agg D)).run Try.prog W = .ok true W) :
    Calls Try.prog 13 #[.agg (hcells s l p S D), .agg (hcells s l p S D)] w fun e w' => e = .returned (.bool true) ∧ Below w.heap.size w w' := by
  have p1 := hcells_src s l p S D
  have p2 := hcells_dst s l p S D hS
  have g0 : (hcells s l p S D)[0]? = some (.int .i64 (s : Int)) := rfl
  have g1 : (hcells s l p S D)[1]? = some (.int .i64 (l : Int)) := rfl
  have g2 : (hcells s l p S D)[2]? = some (.int .u8 (p : Int)) := rfl
  have IS := Lib.hid (i24.trans (congrArg some (show (17 : Nat) = S.toList.length by simp [hS])))
  have IDD := Lib.hid (i24.trans (congrArg some (show (17 : Nat) = D.toList.length by simp [hD])))
  generalize hcells s l p S D = h at *
  have n1 := (Blk.new w 29 h).alloc (.cells h 32)
  have n2 := Blk.new (w.alloc (.cells h 29)) 32 h
  have K := Lib.hid (((Below.refl w.heap.size w).alloc (Nat.le_refl _) (.cells h 29)).alloc (by simp) (.cells h 32))
  rw [World.size_alloc] at n2
  have l1 := Lib.hid (run_part_load (P := Try.prog) 25 3 S.toList _ n1 p1 Try.underlying25 rfl IS.out)
  have l3 := Lib.hid (run_part_load (P := Try.prog) 25 20 D.toList _ n1 p2 Try.underlying25 rfl IDD.out)
  have l2 := Lib.hid (run_part_load (P := Try.prog) 25 3 S.toList _ n2 p1 Try.underlying25 rfl IS.out)
  have l4 := Lib.hid (run_part_load (P := Try.prog) 25 20 D.toList _ n2 p2 Try.underlying25 rfl IDD.out)
  rw [Array.toArray_toList] at l1 l2 l3 l4
  have a0 := (n1.cell 0).trans g0
  have a1 := (n1.cell 1).trans g1
  have a2 := (n1.cell 2).trans g2
  have b0 := (n2.cell 0).trans g0
  have b1 := (n2.cell 1).trans g1
  have b2 := (n2.cell 2).trans g2
  clear p1 p2 g0 g1 g2 n1 n2 hS hD
  go_enter Try.func13, Try.ntmps13
  go_wp2_with (first | ((with_reducible refine wpList_load_want (op := ⟨some 26, .load 25 (.tmp 25), _, _, _, _⟩) ?wg1 25 (.tmp 25) ?wo1 ⟨w.heap.size, 3, none⟩ ?wx1 (.agg S) l1.out ?_); (case wg1 => rfl); (case wo1 => rfl); (case wx1 => rfl)) | ((with_reducible refine wpList_load_want (op := ⟨some 28, .load 25 (.tmp 27), _, _, _, _⟩) ?wg2 25 (.tmp 27) ?wo2 ⟨w.heap.size + 1, 3, none⟩ ?wx2 (.agg S) l2.out ?_); (case wg2 => rfl); (case wo2 => rfl); (case wx2 => rfl)) | ((with_reducible refine wpList_load_want (op := ⟨some 33, .load 25 (.tmp 32), _, _, _, _⟩) ?wg3 25 (.tmp 32) ?wo3 ⟨w.heap.size, 20, none⟩ ?wx3 (.agg D) l3.out ?_); (case wg3 => rfl); (case wo3 => rfl); (case wx3 => rfl)) | ((with_reducible refine wpList_load_want (op := ⟨some 35, .load 25 (.tmp 34), _, _, _, _⟩) ?wg4 25 (.tmp 34) ?wo4 ⟨w.heap.size + 1, 20, none⟩ ?wx4 (.agg D) l4.out ?_); (case wg4 => rfl); (case wo4 => rfl); (case wx4 => rfl)))
  go_ret
  exact ⟨rfl, K.out⟩
theorem same_hd (zs : List Nat) (hb : ∀ c ∈ zs, c < 256) (w : World) : Calls Try.prog 13 #[.agg (hd zs), .agg (hd zs)] w fun e w' => e = .returned (.bool true) ∧ Below w.heap.size w w' := by
  have hz : ∀ n ∈ [0, 0, 0, 0], n < 256 := by simp
  unfold hd
  split
  · exact same_cells _ _ _ _ _ w (a4_size _ (by simp; omega)) (a4_size _ (by simp; omega)) (a4_eq _ (by simp; omega) fun c hc => hb c (List.mem_of_mem_drop (List.mem_of_mem_take hc))) (a4_eq _ (by simp; omega) fun c hc => hb c (List.mem_of_mem_drop (List.mem_of_mem_take hc)))
  · exact same_cells 0 0 0 _ _ w (a4_size _ (by simp)) (a4_size _ (by simp)) (a4_eq _ (by simp) hz) (a4_eq _ (by simp) hz)
end Go.Proofs.Ythjaolngfjfldaa

/- bytes.Clone of a row that is there; rows of the call's own. -/
namespace Go.Proofs.Ythjaolngfjfldaa
open Go.RowKit

theorem cellsA_head (v : Bool) (bs : List Nat) : (cellsA v bs)[0]? = some (.bool v) := by simp [cellsA]

theorem own_at {w : World} {base n : Nat} {e : TypeId} {v : Value} {xs : List Value} (h : w.ownsRow base e 1 v n xs) (h0 : 0 < n) : ∃ g cap, v = .slice (some ⟨g, 0, none⟩) n cap ∧ n ≤ cap ∧ cap ≤ maxLen ∧ base ≤ g ∧ g < w.heap.size := by
  rcases h.2 with ⟨-, h1⟩ | ⟨g, cap, cur, rfl, hg, h2, hnc, hcm, _⟩
  · omega
  · exact ⟨g, cap, rfl, hnc, hcm, hg, (Array.getElem?_eq_some_iff.1 h2).1⟩
theorem chA_lt (o : Nat) (F T : List Nat) (h : o < 65536) : chA o F T < 65536 := by
  unfold chA
  split
  · have := chg_le o F T (by omega) (F.length / 2); omega
  · exact h
theorem clone_any (p : Addr) (cap : Nat) (zs : List Nat) (w : World) (hr : Rd w (.slice (some p) zs.length cap) (nus .u8 zs)) (hz : zs.length ≤ 140737488355328) (h0 : 0 < zs.length) :
    Calls Try.prog 30 #[.slice (some p) zs.length cap] w fun e w' => ∃ x, e = .returned x ∧ w'.ownsRow w.heap.size 5 1 x zs.length (nus .u8 zs) ∧ Below w.heap.size w w' := by
  obtain ⟨b, off, e, hc⟩ := hr.cells h0
  cases e
  have h := Try.bytes_Clone_at ⟨b, off, none⟩ zs.length cap (zs.map fun n : Nat => (n : Int)) w (by simp) hz (fun i hi => by
    rw [Addr.add_lit, hc i hi]
    simp [List.getD_eq_getElem?_getD, List.getElem?_eq_getElem hi])
  refine h.mono ?_
  rintro e w' ⟨v, rfl, ho, -, hb⟩
  exact ⟨v, rfl, by simpa [nus, Function.comp_def] using ho, hb⟩
end Go.Proofs.Ythjaolngfjfldaa

/- A number as bytes, the high one first, put into a row. Nothing of the program. -/
namespace Go.Proofs.Ythjaolngfjfldaa
open Go.RowKit

/-- The bytes of a number, the high one first, so many. -/
def bg : Nat → Nat → List Nat
  | 0, _ => []
  | n + 1, v => bg n (v / 256) ++ [v % 256]
theorem bg_length : ∀ n v, (bg n v).length = n
  | 0, _ => rfl
  | n + 1, v => by simp [bg, bg_length n]
theorem bg_get : ∀ n v j, j < n → (bg n v).getD j 0 = v / 256 ^ (n - 1 - j) % 256
  | 0, _, _, h => by omega
  | n + 1, v, j, h => by
    by_cases e : j = n
    · subst e
      simp [bg, List.getD_eq_getElem?_getD, bg_length]
    · have ih := bg_get n (v / 256) j (by omega)
      simp only [bg, List.getD_eq_getElem?_getD] at ih ⊢
      rw [List.getElem?_append_left (by rw [bg_length]; omega), ih, Nat.div_div_eq_div_mul]
      rw [show n + 1 - 1 - j = (n - 1 - j) + 1 from by omega, Nat.pow_succ, Nat.mul_comm]
theorem bg_lt : ∀ n v, ∀ c ∈ bg n v, c < 256
  | 0, _, c, h => by simp [bg] at h
  | n + 1, v, c, h => by
    simp only [bg, List.mem_append, List.mem_singleton] at h
    rcases h with h | rfl
    · exact bg_lt n _ c h
    · omega
theorem bg_take (n v j : Nat) (h : j < n) : (bg n v).take (j + 1) = (bg n v).take j ++ [v / 256 ^ (n - 1 - j) % 256] := by
  rw [List.take_succ_eq_append_getElem (by rw [bg_length]; exact h), ← bg_get n v j h]
  simp [List.getD_eq_getElem?_getD, List.getElem?_eq_getElem (show j < (bg n v).length by rw [bg_length]; exact h)]
theorem bg_be : ∀ (l : List Nat), (∀ c ∈ l, c < 256) → ∀ n, n = l.length → bg n (be l) = l := by
  intro l h n hn
  subst hn
  induction hl : l.length generalizing l with
  | zero => rw [List.eq_nil_of_length_eq_zero hl]; rfl
  | succ n ih =>
    have hne : l ≠ [] := by intro e; simp [e] at hl
    have e := List.dropLast_concat_getLast hne
    rw [← e, be_snoc]
    have hc := h (l.getLast hne) (List.getLast_mem hne)
    have := ih l.dropLast (fun c hc => h c (List.dropLast_subset l hc)) (by simp [hl])
    simp only [bg]
    rw [show (be l.dropLast * 256 + l.getLast hne) / 256 = be l.dropLast by omega, this]
    congr 2
    omega

theorem bg_cons : ∀ j v, bg (j + 1) v = (v / 256 ^ j % 256) :: bg j v
  | 0, v => by simp [bg]
  | j + 1, v => by
    rw [bg, bg_cons j (v / 256), bg]
    simp only [List.cons_append, Nat.div_div_eq_div_mul]
    rw [Nat.pow_succ, Nat.mul_comm 256]
/-- The row after so many rounds. -/
def putRow (zs : List Nat) (k n v j : Nat) : List Nat := zs.take (k + n - j) ++ (bg j v ++ zs.drop (k + n))
theorem putRow_length (zs : List Nat) (k n v j : Nat) (h : k + n ≤ zs.length) (hj : j ≤ n) : (putRow zs k n v j).length = zs.length := by
  simp [putRow, bg_length]; omega
theorem putRow_zero (zs : List Nat) (k n v : Nat) : putRow zs k n v 0 = zs := by simp [putRow, bg]
theorem putRow_step (zs : List Nat) (k n v j : Nat) (h : k + n ≤ zs.length) (hj : j < n) : (putRow zs k n v j).set (k + n - 1 - j) (v / 256 ^ j % 256) = putRow zs k n v (j + 1) := by
  unfold putRow
  rw [bg_cons]
  rw [show k + n - j = (k + n - (j + 1)) + 1 from by omega, List.take_succ_eq_append_getElem (by omega), show k + n - 1 - j = k + n - (j + 1) from by omega]
  rw [List.append_assoc, List.set_append_right _ _ (by simp; omega)]
  simp
  rw [show k + n - (j + 1) - min (k + n - (j + 1)) zs.length = 0 from by omega]
  rfl
theorem nus_set (k : IntKind) (zs : List Nat) (i n : Nat) : (nus k zs).set i (.int k (n : Int)) = nus k (zs.set i n) := by simp [nus, List.map_set]
theorem grownBy_trans {a b c : World} {r : Option Nat} (h : a.grownBy b r) (g : b.grownBy c r) : a.grownBy c r :=
  ⟨g.os.trans h.os, g.tape.trans h.tape, g.output.trans h.output, Nat.le_trans h.size g.size, fun k hk hr => (g.block k (Nat.lt_of_lt_of_le hk h.size) hr).trans (h.block k hk hr)⟩
theorem putRow_app (zs : List Nat) (n v len : Nat) (h : len = zs.length) : putRow (zs ++ List.replicate n 0) len n v n = zs ++ bg n v := by
  subst h
  simp [putRow]
end Go.Proofs.Ythjaolngfjfldaa

/- A row in which another one is written over a part. Nothing of the program. -/
namespace Go.Proofs.Ythjaolngfjfldaa
open Go.RowKit

/-- B, where T stands from place k on. -/
def ov (B T : List Nat) (k : Nat) : List Nat := B.take k ++ (T ++ B.drop (k + T.length))
theorem ov_length (B T : List Nat) (k : Nat) (h : k + T.length ≤ B.length) : (ov B T k).length = B.length := by simp [ov]; omega
theorem ov_lt (B T : List Nat) (k : Nat) (hB : ∀ c ∈ B, c < 256) (hT : ∀ c ∈ T, c < 256) : ∀ c ∈ ov B T k, c < 256 := by
  intro c hc
  rcases List.mem_append.1 hc with h | h
  · exact hB c (List.mem_of_mem_take h)
  · rcases List.mem_append.1 h with h | h
    · exact hT c h
    · exact hB c (List.mem_of_mem_drop h)
theorem put_ov (zs : List Nat) (k v : Nat) : putRow zs k 2 v 2 = ov zs (bg 2 v) k := by
  unfold putRow ov
  rw [bg_length, Nat.add_sub_cancel]
theorem ov_get (B T : List Nat) (k i : Nat) (h : k + T.length ≤ B.length) : (ov B T k).getD i 0 = if k ≤ i ∧ i < k + T.length then T.getD (i - k) 0 else B.getD i 0 := by
  have hl : (B.take k).length = k := by simp; omega
  unfold ov
  simp only [List.getD_eq_getElem?_getD]
  by_cases h1 : i < k
  · rw [if_neg (by omega), List.getElem?_append_left (by omega), List.getElem?_take_of_lt h1]
  · rw [List.getElem?_append_right (by omega), hl]
    by_cases h2 : i < k + T.length
    · rw [if_pos (by omega), List.getElem?_append_left (by omega)]
    · rw [if_neg (by omega), List.getElem?_append_right (by omega), List.getElem?_drop]
      congr 2; omega
theorem ov_get_off (B T : List Nat) (k i : Nat) (h : k + T.length ≤ B.length) (hi : i < k ∨ k + T.length ≤ i) : (ov B T k).getD i 0 = B.getD i 0 := by
  rw [ov_get B T k i h, if_neg (by omega)]
theorem ov_u2_off (B T : List Nat) (k i : Nat) (h : k + T.length ≤ B.length) (hi : i + 2 ≤ k ∨ k + T.length ≤ i) : u2 (ov B T k) i = u2 B i := by
  unfold u2
  rw [ov_get_off B T k i h (by omega), ov_get_off B T k (i + 1) h (by omega)]
theorem ov_take (B T : List Nat) (k n : Nat) (h : k + T.length ≤ n) (_hn : n ≤ B.length) : (ov B T k).take n = ov (B.take n) T k := by
  unfold ov
  rw [List.take_append, List.take_append, List.take_take, List.take_take, Nat.min_comm n k, List.drop_take]
  have hl : (B.take k).length = k := by simp; omega
  rw [hl, List.take_of_length_le (l := T) (by omega)]
  congr 2
  · congr 1; omega
theorem ov_take_off (B T : List Nat) (k n : Nat) (h : n ≤ k) (hk : k + T.length ≤ B.length) : (ov B T k).take n = B.take n := by
  unfold ov
  rw [List.take_append_of_le_length (by simp; omega), List.take_take, Nat.min_eq_left h]
theorem ov_drop_off (B T : List Nat) (k n : Nat) (h : k + T.length ≤ n) (hk : k + T.length ≤ B.length) : (ov B T k).drop n = B.drop n := by
  have hl : (B.take k).length = k := by simp; omega
  unfold ov
  rw [List.drop_append, List.drop_append, List.drop_drop, hl, List.drop_eq_nil_of_le (by omega), List.drop_eq_nil_of_le (by omega)]
  simp only [List.nil_append]
  congr 1; omega
theorem ov_mid (B T : List Nat) (k : Nat) (hk : k + T.length ≤ B.length) : ((ov B T k).drop k).take T.length = T := by
  have hl : (B.take k).length = k := by simp; omega
  unfold ov
  rw [List.drop_append_of_le_length (by omega), List.drop_eq_nil_of_le (by omega), List.nil_append, List.take_append_of_le_length (Nat.le_refl _), List.take_length]
theorem mid_off (B T : List Nat) (k j m : Nat) (hk : k + T.length ≤ B.length) (h : j + m ≤ k ∨ k + T.length ≤ j) : ((ov B T k).drop j).take m = (B.drop j).take m := by
  rcases h with h | h
  · rw [List.take_drop, List.take_drop, ov_take_off B T k _ (by omega) hk]
  · rw [ov_drop_off B T k j h hk]
/-- The sum of the words where others stand. -/
theorem ov_wsp (B T : List Nat) (k : Nat) (hk : k % 2 = 0) (h : k + T.length ≤ B.length) (hT : T.length % 2 = 0) :
    wsp 0 (ov B T k) + wsp 0 ((B.drop k).take T.length) = wsp 0 B + wsp 0 T := by
  have hl : (B.take k).length = k := by simp; omega
  have hl2 : ((B.drop k).take T.length).length = T.length := by simp; omega
  have hB : B = B.take k ++ ((B.drop k).take T.length ++ B.drop (k + T.length)) := by rw [← List.drop_drop, List.take_append_drop, List.take_append_drop]
  have h4 : wsp 0 B = wsp 0 (B.take k) + (wsp 0 ((B.drop k).take T.length) + wsp 0 (B.drop (k + T.length))) := by
    conv => lhs; rw [hB]
    rw [wsp_append, wsp_append, hl, hl2, wsp_eq _ (0 + k) 0 (by omega), wsp_eq _ (0 + k + T.length) 0 (by omega)]
  rw [h4]
  unfold ov
  rw [wsp_append, wsp_append, hl, wsp_eq T (0 + k) 0 (by omega), wsp_eq _ (0 + k + T.length) 0 (by omega)]
  omega
theorem wsp_bg (v : Nat) (h : v < 65536) : wsp 0 (bg 2 v) = v := by
  simp only [bg, wsp, List.nil_append, List.cons_append, Nat.zero_add]
  rw [wt_even 0 rfl, wt_odd 1 rfl]
  omega
theorem wsp_two_at (B : List Nat) (k : Nat) (h : k + 2 ≤ B.length) : wsp 0 ((B.drop k).take 2) = u2 B k := by
  have e : (B.drop k).take 2 = [B.getD k 0, B.getD (k + 1) 0] := by
    refine ext_getD _ _ 0 (by simp; omega) fun i hi => ?_
    have hi2 : i = 0 ∨ i = 1 := by simp at hi; omega
    rcases hi2 with rfl | rfl <;> simp [List.getD_eq_getElem?_getD]
  rw [e]
  simp only [wsp]
  rw [wt_even 0 rfl, wt_odd (0 + 1) rfl]
  unfold u2; omega
end Go.Proofs.Ythjaolngfjfldaa

/- copy into a part of a row of the call's own. -/
namespace Go.Proofs.Ythjaolngfjfldaa
open Go.RowKit

theorem splice_nus (k : IntKind) (zs ts : List Nat) (off : Nat) : splice (nus k zs) off (nus k ts) = nus k (ov zs ts off) := by
  unfold splice ov
  rw [nus_length]
  simp [nus, List.map_take, List.map_drop]
theorem splice_take (cur cs : List Value) (off n : Nat) (h : off + cs.length ≤ n) (hn : n ≤ cur.length) : (splice cur off cs).take n = splice (cur.take n) off cs := by
  have hl : (cur.take off).length = off := by simp; omega
  unfold splice
  rw [List.take_append, List.take_append, List.take_take, List.take_take, Nat.min_comm n off, List.drop_take]
  rw [hl, List.take_of_length_le (l := cs) (by omega), show n - off - cs.length = n - (off + cs.length) from by omega]
theorem copy_into {P : Program} {w : World} {ops : Array Oper} {rest : List Oper} {o : Oper} {a : Act} {Q : Exit → Act → World → Prop} (hgd : o.guard = none) (d s : Operand) (dT sT : TypeId)
    (ho : o.op = .call { callee := .builtin .copy, args := #[d, s], argTypes := #[dT, sT] }) (elem : TypeId) (hu : P.underlying dT = some (.slice elem)) (hsz : (P.info? elem).map (·.size) = some 1)
    (g off n cap base dLen dCap : Nat) (e : TypeId) (k : IntKind) (zs ts : List Nat) (sp : Option Addr) (sLen sCap : Nat) (hd : a.eval d = .slice (some ⟨g, off, none⟩) dLen dCap) (hs : a.eval s = .slice sp sLen sCap)
    (hown : w.ownsRow base e 1 (.slice (some ⟨g, 0, none⟩) n cap) n (nus k zs)) (hr : Rd w (.slice sp sLen sCap) (nus k ts)) (hfit : off + sLen ≤ n) (hdl : sLen ≤ dLen)
    (h : ∀ w', Hid (w'.ownsRow base e 1 (.slice (some ⟨g, 0, none⟩) n cap) n (nus k (ov zs ts off))) → w.grownBy w' (some g) → wpList P ops Q rest (a.put o.dst (goInt sLen)) w') :
    wpList P ops Q (o :: rest) a w := by
  have hr0 := hr
  obtain ⟨a', c', ee, h1, h2, h3⟩ := hr0
  simp only [Value.slice.injEq, nus_length] at ee
  obtain ⟨rfl, rfl, rfl⟩ := ee
  obtain ⟨hxl, ⟨h0, -⟩ | ⟨g', cap', cur, hv, hb, hh, hnc, hcm, hcs, ht⟩⟩ := hown
  · cases h0
  simp only [Value.slice.injEq, Option.some.injEq, Addr.mk.injEq, and_true, true_and] at hv
  obtain ⟨rfl, rfl⟩ := hv
  simp only [Nat.mul_one] at hxl hcs ht
  have hcl : cur.toList.length = cap := by simpa using hcs
  refine copy_grown hgd d s dT sT ho elem hu hsz _ sp dLen dCap ts.length sCap hd hs g off cur.toList e (by simpa using hh) (nus k ts) (by rw [nus_length]; exact (Nat.min_eq_left hdl).symm) ?_ (by rw [nus_length, hcl]; omega) (oneCell_nus _ _) ?_
  · intro h0
    obtain ⟨ad, he, hc⟩ := hr.src h0
    exact ⟨rfl, ad, he, hc⟩
  · intro w' hg hgr
    have hgo : goInt (nus k ts).length = goInt ts.length := by rw [nus_length]
    rw [hgo]
    refine h w' ⟨?_, .inr ⟨g, cap, (splice cur.toList off (nus k ts)).toArray, rfl, hb, hg.out, hnc, hcm, ?_, ?_⟩⟩ hgr
    · rw [nus_length] at hxl ⊢
      rw [ov_length _ _ _ (by omega), hxl, Nat.mul_one]
    · rw [Nat.mul_one, List.size_toArray]
      unfold splice
      simp only [List.length_append, List.length_take, List.length_drop, nus_length, hcl]
      omega
    · rw [Nat.mul_one, splice_take _ _ _ _ (by rw [nus_length]; exact hfit) (by omega), ht, splice_nus]
end Go.Proofs.Ythjaolngfjfldaa

