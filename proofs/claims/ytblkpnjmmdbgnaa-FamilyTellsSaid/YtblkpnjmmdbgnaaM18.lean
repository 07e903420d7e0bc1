/- Texts that the walks of this seat lean on, put together. -/
import Derived.LoopTactic
import Derived.Handy
import Derived.Lib.Hide
import Derived.Test.YtblkpnjmmdbgnaaTk
import Derived.Test.YtblkpnjmmdbgnaaM01
import Derived.Test.YtblkpnjmmdbgnaaM03
namespace Go.Proofs.Ytblkpnjmmdbgnaa
open Go.RowKit Go.Lib
set_option maxRecDepth 100000 in
theorem cell17 (v : Bool) (b0 b1 b2 b3 b4 b5 b6 b7 b8 b9 b10 b11 b12 b13 b14 b15 : Nat) (w : World) (k : Nat) (hk : k < 16) :
    (w.alloc (.cells #[.bool v, .int .u8 (b0 : Int), .int .u8 (b1 : Int), .int .u8 (b2 : Int), .int .u8 (b3 : Int), .int .u8 (b4 : Int), .int .u8 (b5 : Int), .int .u8 (b6 : Int), .int .u8 (b7 : Int), .int .u8 (b8 : Int), .int .u8 (b9 : Int), .int .u8 (b10 : Int), .int .u8 (b11 : Int), .int .u8 (b12 : Int), .int .u8 (b13 : Int), .int .u8 (b14 : Int), .int .u8 (b15 : Int)] 24)).cell? ⟨w.heap.size, 1 + k, none⟩ = some (.int .u8 (([b0, b1, b2, b3, b4, b5, b6, b7, b8, b9, b10, b11, b12, b13, b14, b15].getD k 0 : Nat) : Int)) := by
  rw [(Blk.new w 24 #[.bool v, .int .u8 (b0 : Int), .int .u8 (b1 : Int), .int .u8 (b2 : Int), .int .u8 (b3 : Int), .int .u8 (b4 : Int), .int .u8 (b5 : Int), .int .u8 (b6 : Int), .int .u8 (b7 : Int), .int .u8 (b8 : Int), .int .u8 (b9 : Int), .int .u8 (b10 : Int), .int .u8 (b11 : Int), .int .u8 (b12 : Int), .int .u8 (b13 : Int), .int .u8 (b14 : Int), .int .u8 (b15 : Int)]).cell (1 + k)]
  have h : k = 0 ∨ k = 1 ∨ k = 2 ∨ k = 3 ∨ k = 4 ∨ k = 5 ∨ k = 6 ∨ k = 7 ∨ k = 8 ∨ k = 9 ∨ k = 10 ∨ k = 11 ∨ k = 12 ∨ k = 13 ∨ k = 14 ∨ k = 15 := by omega
  rcases h with rfl | rfl | rfl | rfl | rfl | rfl | rfl | rfl | rfl | rfl | rfl | rfl | rfl | rfl | rfl | rfl <;> rfl
set_option maxRecDepth 100000 in
set_option maxHeartbeats 1000000 in
theorem ref_valid (v : Bool) (b0 b1 b2 b3 b4 b5 b6 b7 b8 b9 b10 b11 b12 b13 b14 b15 : Nat) (w : World) :
    Calls Try.prog 30 #[.agg #[.bool v, .int .u8 (b0 : Int), .int .u8 (b1 : Int), .int .u8 (b2 : Int), .int .u8 (b3 : Int), .int .u8 (b4 : Int), .int .u8 (b5 : Int), .int .u8 (b6 : Int), .int .u8 (b7 : Int), .int .u8 (b8 : Int), .int .u8 (b9 : Int), .int .u8 (b10 : Int), .int .u8 (b11 : Int), .int .u8 (b12 : Int), .int .u8 (b13 : Int), .int .u8 (b14 : Int), .int .u8 (b15 : Int)]] w fun e w' => e = .returned (.bool (vldA v [b0, b1, b2, b3, b4, b5, b6, b7, b8, b9, b10, b11, b12, b13, b14, b15])) ∧ Below w.heap.size w w' := by
  have hc := cell17 v b0 b1 b2 b3 b4 b5 b6 b7 b8 b9 b10 b11 b12 b13 b14 b15 w
  have hc0 : (w.alloc (.cells #[.bool v, .int .u8 (b0 : Int), .int .u8 (b1 : Int), .int .u8 (b2 : Int), .int .u8 (b3 : Int), .int .u8 (b4 : Int), .int .u8 (b5 : Int), .int .u8 (b6 : Int), .int .u8 (b7 : Int), .int .u8 (b8 : Int), .int .u8 (b9 : Int), .int .u8 (b10 : Int), .int .u8 (b11 : Int), .int .u8 (b12 : Int), .int .u8 (b13 : Int), .int .u8 (b14 : Int), .int .u8 (b15 : Int)] 24)).cell? ⟨w.heap.size, 0, none⟩ = some (.bool v) := (Blk.new w 24 _).cell 0
  obtain ⟨bs, hbs⟩ : ∃ bs, bs = [b0, b1, b2, b3, b4, b5, b6, b7, b8, b9, b10, b11, b12, b13, b14, b15] := ⟨_, rfl⟩
  obtain ⟨W, hW⟩ : ∃ W, W = w.alloc (.cells #[.bool v, .int .u8 (b0 : Int), .int .u8 (b1 : Int), .int .u8 (b2 : Int), .int .u8 (b3 : Int), .int .u8 (b4 : Int), .int .u8 (b5 : Int), .int .u8 (b6 : Int), .int .u8 (b7 : Int), .int .u8 (b8 : Int), .int .u8 (b9 : Int), .int .u8 (b10 : Int), .int .u8 (b11 : Int), .int .u8 (b12 : Int), .int .u8 (b13 : Int), .int .u8 (b14 : Int), .int .u8 (b15 : Int)] 24) := ⟨_, rfl⟩
  have HL := Lib.hid (show Below w.heap.size w W by rw [hW]; exact (Below.refl _ w).alloc (Nat.le_refl _) _)
  rw [← hbs] at hc ⊢
  have HB := Lib.hid hbs
  have HC := Lib.hid hc
  have HC0 := Lib.hid hc0
  clear hbs hc hc0
  go_enter Try.func30, Try.ntmps30
  go_wp2
  rw [← hW]
  rw [← hW] at HC HC0
  clear hW
  go_loop [3] (fun i => ∃ k : Nat, 4 ≤ k ∧ k ≤ 16 ∧ i = .int .i64 k ∧ Hid (v = true ∨ ∀ j, 4 ≤ j → j < k → bs.getD j 0 = 0)) (fun i => 16 - (RowKit.intOf i).toNat)
  case atStart => exact ⟨4, by omega, by omega, rfl, Lib.hid (.inr fun j h1 h2 => by omega)⟩
  case round =>
    obtain ⟨k, hk4, hk16, rfl, hall⟩ := hrel
    by_cases hlt : k < 16
    · have hck := HC.out k hlt
      have hcv := HC0.out
      obtain ⟨x, hx⟩ : ∃ x, x = bs.getD k 0 := ⟨_, rfl⟩
      rw [← hx] at hck
      have HX := Lib.hid hx
      clear hx
      cases v with
      | true =>
        go_wp2
        go_round
        case rel => exact ⟨k + 1, by omega, by omega, by go_num, Lib.hid (by simp)⟩
        case measure => simp [RowKit.intOf]; omega
      | false =>
        by_cases h0 : x = 0
        · subst h0
          go_wp2
          go_round
          case rel =>
            refine ⟨k + 1, by omega, by omega, by go_num, Lib.hid (.inr fun j h1 h2 => ?_)⟩
            by_cases hj : j = k
            · rw [hj]; exact HX.out.symm
            · rcases hall.out with h | h
              · cases h
              · exact h j h1 (by omega)
          case measure => simp [RowKit.intOf]; omega
        · have hne : ((x : Int) != 0) = true := by rw [bne_iff_ne]; omega
          have HV := Lib.hid (show vldA false bs = false by
            rcases hq : vldA false bs with _ | _
            · rfl
            · rcases vldA_spec.1 hq with h | h
              · cases h
              · exact absurd (HX.out.trans (h k hk4 hlt)) h0)
          clear h0
          go_wp2
          go_ret
          exact ⟨by rw [HV.out]; rfl, HL.out⟩
    · have HV := Lib.hid (show vldA v bs = true from vldA_spec.2 (by
        rcases hall.out with h | h
        · exact .inl h
        · exact .inr fun i h1 h2 => h i h1 (by omega)))
      go_wp2
      go_ret
      exact ⟨by rw [HV.out]; rfl, HL.out⟩
end Go.Proofs.Ytblkpnjmmdbgnaa
