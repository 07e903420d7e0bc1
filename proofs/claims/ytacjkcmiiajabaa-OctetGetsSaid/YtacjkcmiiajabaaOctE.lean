/- The contract of bazaarlaw1.big: the bytes of a number. -/
import Derived.Test.YtacjkcmiiajabaaOctD
namespace Go.Proofs.Ytacjkcmiiajabaa
open Go.RowKit

/-- The bytes of a number, the high one first, so many. -/
def bg : Nat → Nat → List Nat
  | 0, _ => []
  | n + 1, v => bg n (v / 256) ++ [v % 256]
theorem bg_length : ∀ n v, (bg n v).length = n
  | 0, _ => rfl
  | n + 1, v => by simp [bg, bg_length n]
theorem bg_get : ∀ n v j, j < n → (bg n v).getD j 0 = v / 256 ^ (n - 1 - j) % 256
  | 0, _, _, h => by omega
  | n + 1, v, j, h => by
    by_cases e : j = n
    · subst e
      simp [bg, List.getD_eq_getElem?_getD, bg_length]
    · have ih := bg_get n (v / 256) j (by omega)
      simp only [bg, List.getD_eq_getElem?_getD] at ih ⊢
      rw [List.getElem?_append_left (by rw [bg_length]; omega), ih, Nat.div_div_eq_div_mul]
      rw [show n + 1 - 1 - j = (n - 1 - j) + 1 from by omega, Nat.pow_succ, Nat.mul_comm]
theorem bg_lt : ∀ n v, ∀ c ∈ bg n v, c < 256
  | 0, _, c, h => by simp [bg] at h
  | n + 1, v, c, h => by
    simp only [bg, List.mem_append, List.mem_singleton] at h
    rcases h with h | rfl
    · exact bg_lt n _ c h
    · omega
theorem bg_take (n v j : Nat) (h : j < n) : (bg n v).take (j + 1) = (bg n v).take j ++ [v / 256 ^ (n - 1 - j) % 256] := by
  rw [List.take_succ_eq_append_getElem (by rw [bg_length]; exact h), ← bg_get n v j h]
  simp [List.getD_eq_getElem?_getD, List.getElem?_eq_getElem (show j < (bg n v).length by rw [bg_length]; exact h)]
theorem bg_be : ∀ (l : List Nat), (∀ c ∈ l, c < 256) → ∀ n, n = l.length → bg n (be l) = l := by
  intro l h n hn
  subst hn
  induction hl : l.length generalizing l with
  | zero => rw [List.eq_nil_of_length_eq_zero hl]; rfl
  | succ n ih =>
    have hne : l ≠ [] := by intro e; simp [e] at hl
    have e := List.dropLast_concat_getLast hne
    rw [← e, be_snoc]
    have hc := h (l.getLast hne) (List.getLast_mem hne)
    have := ih l.dropLast (fun c hc => h c (List.dropLast_subset l hc)) (by simp [hl])
    simp only [bg]
    rw [show (be l.dropLast * 256 + l.getLast hne) / 256 = be l.dropLast by omega, this]
    congr 2
    omega

theorem Try.info5 : (Try.prog.info? 5).map (fun i => (i.zero, i.size, i.bytes)) = some (some (.int .u8 0), 1, 1) := by kernel_rfl

theorem pow8 (k : Nat) : (2 : Nat) ^ (8 * k) = 256 ^ k := by rw [Nat.pow_mul]
theorem shr_cast (v k : Nat) : (v : Int) / 2 ^ (8 * k) % 256 = ((v / 256 ^ k % 256 : Nat) : Int) := by
  have e : (2 : Int) ^ (8 * k) = ((256 ^ k : Nat) : Int) := by rw [← pow8 k, Int.natCast_pow]; rfl
  rw [e]
  generalize 256 ^ k = m
  rw [Int.natCast_emod, Int.natCast_ediv]; rfl
theorem rel_big (n v j : Nat) (h : j < n) : nus .u8 ((bg n v).take j) ++ [Value.int .u8 ((v : Int) / 2 ^ (8 * (n - 1 - j)) % 256)] = nus .u8 ((bg n v).take (j + 1)) := by
  rw [bg_take n v j h, nus_append, shr_cast]; rfl

set_option maxHeartbeats 400000 in
theorem big_any (v n : Nat) (w : World) (_hv : v < 18446744073709551616) (hn : n ≤ 8) :
    Calls Try.prog 13 #[.int .u64 v, .int .i64 n] w fun e w' => ∃ x, e = .returned x ∧ w'.ownsRow w.heap.size 5 1 x n (nus .u8 (bg n v)) ∧ Below w.heap.size w w' := by
  obtain ⟨i0, hi, hz0, hz1, hz2⟩ := info_parts Try.info5
  go_enter Try.func13, Try.ntmps13
  go_wp2
  go_loopw [5, 6] (fun b i wr => ∃ j : Nat, j ≤ n ∧ i = .int .i64 ((n : Int) - 1 - j) ∧ wr.ownsRow w.heap.size 5 1 b j (nus .u8 ((bg n v).take j)) ∧ Below w.heap.size w wr) (fun _ i _ => (intOf i + 1).toNat)
  case atStart => exact ⟨0, Nat.zero_le _, by go_num, World.ownsRow_nil _ _ _ _, Below.refl _ _⟩
  case round =>
    obtain ⟨j, hj, rfl, hown, hnx⟩ := hrel
    by_cases h1 : j < n
    · go_wp2_with (at_builtin; refine wpList_append_own _ rfl _ _ 22 rfl w.heap.size 5 i0 (.int .u8 0) 1 1 Try.underlying22 hi hz0 hz1 hz2 rfl (by decide) _ _ _ rfl (hown.alloc _) ⟨wr.heap.size, 0, none⟩ 1 1 [.int .u8 ((v : Int) / 2 ^ (8 * (n - 1 - j)) % 256)] rfl rfl (cell_one_new _ _ _) ?c2 ?c3 ?c4 ?c5 ?_)
      case c2 => intro u hu; simp at hu; subst hu; rfl
      case c3 => unfold maxLen; omega
      case c4 => omega
      case c5 => have := hnx.size; simp; omega
      intro v' w1 hown' hgrow _
      rw [rel_big n v j h1] at hown'
      have hnx' := (hnx.alloc hnx.size (Obj.cells #[Value.int IntKind.u8 ((v : Int) / 2 ^ (8 * (n - 1 - j)) % 256)] 5)).grown hgrow (by have := hnx.size; simp; omega) (fun k hk => (hown.lt k hk).1)
      clear hown hgrow hnx
      go_wp2
      go_roundw
      case rel => exact ⟨j + 1, by omega, by go_num, hown', hnx'⟩
      case measure => simp [intOf]; omega
    · obtain rfl : j = n := by omega
      rw [List.take_of_length_le (by rw [bg_length]; exact Nat.le_refl _)] at hown
      go_wp2
      go_ret
      exact ⟨_, rfl, hown, hnx⟩
end Go.Proofs.Ytacjkcmiiajabaa
