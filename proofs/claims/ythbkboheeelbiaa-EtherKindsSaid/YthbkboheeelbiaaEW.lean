/- ether.With: the bytes ahead, with another kind. -/
import Derived.Test.YthbkboheeelbiaaEN
import Derived.Test.YthbkboheeelbiaaApp16
namespace Go.Proofs.Ythbkboheeelbiaa
open Go.RowKit

/-- The front of what a slice reads as. -/
theorem Rd.front {w : World} {a : Option Addr} {len cap : Nat} {k : IntKind} {bs : List Nat} (h : Rd w (.slice a len cap) (nus k bs)) (m : Nat) (hm : m ≤ bs.length) : Rd w (.slice a m cap) (nus k (bs.take m)) := by
  obtain ⟨a', cap', e, h1, h2, h3⟩ := h
  simp only [Value.slice.injEq] at e
  obtain ⟨rfl, rfl, rfl⟩ := e
  rw [nus_length] at h1 h3
  have hl : (nus k (bs.take m)).length = m := by rw [nus_length]; simp; omega
  refine ⟨_, _, by rw [hl], by rw [hl]; omega, h2, ?_⟩
  rcases h3 with h3 | ⟨b', off', he, hb, hcc⟩
  · obtain rfl := (nus_nil _ _).1 h3
    exact .inl (by simp [nus])
  · refine .inr ⟨b', off', he, hb, fun i hi => ?_⟩
    rw [hl] at hi
    rw [hcc i (by omega)]
    simp [nus, hi]
theorem net_at (zs : List Nat) (h : (net zs).2.2 = 0) : ∃ n, (net zs).1 = n + 2 ∧ n + 2 ≤ zs.length ∧ (n = 12 ∨ n = 16) ∧ u2 zs n = (net zs).2.1 := by
  unfold net netK at h ⊢
  split at h
  · simp at h
  · rename_i h14
    rw [if_neg h14]
    split at h
    · rename_i hv
      rw [if_pos hv]
      split at h
      · simp at h
      · rename_i h18
        rw [if_neg h18]
        split at h
        · rename_i hk
          rw [if_pos hk]
          exact ⟨16, rfl, by omega, .inr rfl, rfl⟩
        · simp at h
    · rename_i hv
      rw [if_neg hv]
      split at h
      · rename_i hk
        rw [if_pos hk]
        exact ⟨12, rfl, by omega, .inl rfl, rfl⟩
      · simp at h
theorem net_r (zs : List Nat) : (net zs).2.2 < 3 := by
  unfold net netK
  repeat' split
  all_goals simp

set_option maxHeartbeats 800000 in
theorem with_no (v : Value) (zs : List Nat) (k : Nat) (w : World) (hr : Rd w v (nus .u8 zs)) (hb : ∀ c ∈ zs, c < 256) (hn : (net zs).2.2 ≠ 0) :
    Calls Try.prog 10 #[v, .int .u16 (k : Int)] w fun e w' => e = .returned (.slice none 0 0) ∧ w = w' := by
  have HN := Lib.hid (net_any v zs w hr hb)
  have hlt := net_r zs
  obtain ⟨a, cap, rfl, -, -, -⟩ := hr
  rw [nus_length] at HN ⊢
  obtain ⟨r, hre⟩ : ∃ r, r = (net zs).2.2 := ⟨_, rfl⟩
  rw [← hre] at HN hlt hn
  clear hre hb
  go_enter Try.func10, Try.ntmps10
  go_wp2_with fail
  refine HN.out.mono ?_; rintro e w' ⟨rfl, rfl⟩
  have g0 : ((r : Int) != 0) = true := by simp; omega
  clear hn
  go_wp2
  go_ret
  exact ⟨rfl, rfl⟩

set_option maxHeartbeats 800000 in
theorem with_yes (v : Value) (zs : List Nat) (k n : Nat) (w : World) (hr : Rd w v (nus .u8 zs)) (hb : ∀ c ∈ zs, c < 256) (hk : k < 65536) (h0 : (net zs).2.2 = 0) (h1 : (net zs).1 = n + 2) (h2 : n + 2 ≤ zs.length) (h3 : n ≤ 16) :
    Calls Try.prog 10 #[v, .int .u16 (k : Int)] w fun e w' => ∃ x, e = .returned x ∧ w'.ownsRow w.heap.size 5 1 x (n + 2) (nus .u8 (zs.take n ++ bg 2 k)) ∧ Below w.heap.size w w' := by
  have HN := Lib.hid (net_any v zs w hr hb)
  have HR := Lib.hid hr
  obtain ⟨a, cap, rfl, hlc, hl, -⟩ := hr
  rw [nus_length] at hlc HN HR ⊢
  have hap := Lib.hid (fun w' (h : Rd w' (.slice a n cap) (nus .u8 (zs.take n))) => app16_any _ (zs.take n) k w' h (by simp; omega) hk)
  have htl : (zs.take n).length = n := by simp; omega
  have HT := Lib.hid htl
  rw [h0, h1] at HN
  have hfr := Lib.hid (HR.out.front n (by omega))
  generalize zs.length = len at *
  clear hb h0 h1 hk HR htl
  unfold maxLen at hl
  go_enter Try.func10, Try.ntmps10
  go_wp2_with fail
  refine HN.out.mono ?_; rintro e w' ⟨rfl, rfl⟩
  have hs : IntKind.i64.wrap (((n + 2 : Nat) : Int) - 2) = (n : Int) := by rw [IntKind.wrap_i64]; omega
  go_wp2_with fail
  refine (hap.out w hfr.out).mono ?_; rintro e w' ⟨x, rfl, ho, hb⟩
  rw [HT.out] at ho
  go_wp2
  go_ret
  exact ⟨_, rfl, ho, hb⟩
end Go.Proofs.Ythbkboheeelbiaa
