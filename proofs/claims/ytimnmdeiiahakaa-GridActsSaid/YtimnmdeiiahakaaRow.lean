/- What a slice of numbers that came in reads as. Nothing of the program. -/
import Derived.Test.YtimnmdeiiahakaaMem
import Derived.OpenShut
namespace Go.Proofs.Ytimnmdeiiahakaa
open Go.RowKit

set_option maxRecDepth 100000 in
theorem row_rd {k : IntKind} {w : World} {a : Option Addr} {len cap : Nat} {zs : List Int} (B : Nat) (hB : ∀ n : Int, (Lit.int k n).wf = true → 0 ≤ n ∧ n < B)
    (h : (a = none ∧ len = 0 ∧ cap = 0 ∧ zs = []) ∨ ∃ x, a = some x ∧ len ≤ cap ∧ cap ≤ maxLen ∧ zs.length = cap ∧ (∀ i, i < zs.length → w.cell? (x.add i) = some (.int k (zs.getD i 0))) ∧ ∀ n ∈ zs, (Lit.int k n).wf = true) :
    ∃ bs : List Nat, bs.length = len ∧ Rd w (.slice a len cap) (nus k bs) ∧ ∀ c ∈ bs, c < B := by
  rcases h with ⟨rfl, rfl, rfl, rfl⟩ | ⟨x, rfl, hl, hm, hz, hc, hw⟩
  · exact ⟨[], rfl, ⟨none, 0, rfl, by simp [nus], by simp [maxLen], .inl rfl⟩, fun c hc => by cases hc⟩
  · have hlen : ((zs.take len).map Int.toNat).length = len := by simp; omega
    refine ⟨(zs.take len).map Int.toNat, hlen, ⟨some x, cap, by rw [nus_length, hlen], by rw [nus_length, hlen]; exact hl, hm, ?_⟩, ?_⟩
    · by_cases h0 : len = 0
      · exact .inl ((nus_nil _ _).2 (by subst h0; simp))
      · obtain ⟨b, off, spot⟩ := x
        have h00 := hc 0 (by omega)
        have hspot : spot = none := by simpa [Addr.add] using World.cell?_spot h00
        subst hspot
        refine .inr ⟨b, off, rfl, ?_, fun i hi => ?_⟩
        · have := World.block_lt_of_cell? w _ h00
          simpa [Addr.add] using this
        · rw [nus_length, hlen] at hi
          have h1 := hc i (by omega)
          rw [nus_get _ _ _ (by rw [hlen]; exact hi)]
          have hadd : (⟨b, off, none⟩ : Addr).add i = ⟨b, off + i, none⟩ := by unfold Addr.add; split <;> simp_all
          rw [hadd] at h1
          rw [h1]
          have hget : zs.getD i 0 = zs[i]'(by omega) := by simp [List.getD_eq_getElem?_getD, List.getElem?_eq_getElem (show i < zs.length by omega)]
          have hpos := (hB _ (hw _ (List.getElem_mem (show i < zs.length by omega)))).1
          rw [hget]
          congr 2
          simp only [List.getD_eq_getElem?_getD, List.getElem?_map, List.getElem?_take, if_pos hi, List.getElem?_eq_getElem (show i < zs.length by omega), Option.map_some, Option.getD_some]
          omega
    · intro c hc
      obtain ⟨n, hn, rfl⟩ := List.mem_map.1 hc
      have := hB n (hw n (List.mem_of_mem_take hn))
      omega

set_option maxRecDepth 100000 in
theorem rd_nil (w : World) (k : IntKind) : Rd w (.slice none 0 0) (nus k []) := ⟨none, 0, rfl, by simp [nus], by simp [maxLen], .inl rfl⟩
set_option maxRecDepth 100000 in
theorem rd_shape {w : World} {v : Value} {k : IntKind} {bs : List Nat} (h : Rd w v (nus k bs)) : ∃ a cap, v = .slice a bs.length cap ∧ bs.length ≤ cap ∧ cap ≤ maxLen := by
  obtain ⟨a, cap, rfl, h1, h2, _⟩ := h
  rw [nus_length] at h1 ⊢
  exact ⟨a, cap, rfl, h1, h2⟩

set_option maxRecDepth 100000 in
theorem Rd.cells {w : World} {a : Option Addr} {len cap : Nat} {k : IntKind} {bs : List Nat} (h : Rd w (.slice a len cap) (nus k bs)) (h0 : 0 < len) :
    ∃ b off, a = some ⟨b, off, none⟩ ∧ ∀ i, i < len → w.cell? ⟨b, off + i, none⟩ = some (.int k ((bs.getD i 0 : Nat) : Int)) := by
  obtain ⟨a', cap', e, _, _, h⟩ := h
  simp only [Value.slice.injEq] at e
  obtain ⟨rfl, rfl, rfl⟩ := e
  rw [nus_length] at h0 h
  rcases h with h | ⟨b, off, rfl, _, hc⟩
  · rw [(nus_nil _ _).1 h] at h0; cases h0
  · exact ⟨b, off, rfl, fun i hi => by rw [nus_length] at hi; rw [hc i hi, nus_get _ _ _ hi]⟩

set_option maxRecDepth 100000 in
/-- The front of what a slice reads as. -/
theorem Rd.front {w : World} {a : Option Addr} {len cap : Nat} {k : IntKind} {bs : List Nat} (h : Rd w (.slice a len cap) (nus k bs)) (m : Nat) (hm : m ≤ bs.length) : Rd w (.slice a m cap) (nus k (bs.take m)) := by
  obtain ⟨a', cap', e, h1, h2, h3⟩ := h
  simp only [Value.slice.injEq] at e
  obtain ⟨rfl, rfl, rfl⟩ := e
  rw [nus_length] at h1 h3
  have hl : (nus k (bs.take m)).length = m := by rw [nus_length]; simp; omega
  refine ⟨_, _, by rw [hl], by rw [hl]; omega, h2, ?_⟩
  rcases h3 with h3 | ⟨b', off', he, hb, hcc⟩
  · obtain rfl := (nus_nil _ _).1 h3
    exact .inl (by simp [nus])
  · refine .inr ⟨b', off', he, hb, fun i hi => ?_⟩
    rw [hl] at hi
    rw [hcc i (by omega)]
    simp [nus, hi]
set_option maxRecDepth 100000 in
theorem Rd.sub {w : World} {b off len cap : Nat} {k : IntKind} {bs : List Nat} (h : Rd w (.slice (some ⟨b, off, none⟩) len cap) (nus k bs)) (j m : Nat) (hc : j + m ≤ len) : Rd w (.slice (some ⟨b, off + j, none⟩) m (cap - j)) (nus k ((bs.drop j).take m)) := by
  obtain ⟨a', cap', e, h1, h2, h3⟩ := h
  simp only [Value.slice.injEq] at e
  obtain ⟨e1, rfl, rfl⟩ := e
  rw [nus_length] at h1 h3 hc
  have hl : (nus k ((bs.drop j).take m)).length = m := by rw [nus_length]; simp; omega
  refine ⟨_, _, by rw [hl], by rw [hl]; omega, by omega, ?_⟩
  rcases h3 with h3 | ⟨b', off', he, hb, hcc⟩
  · obtain rfl := (nus_nil _ _).1 h3
    exact .inl (by simp [nus])
  · rw [← e1] at he
    cases he
    refine .inr ⟨b, off + j, rfl, hb, fun i hi => ?_⟩
    rw [hl] at hi
    rw [Nat.add_assoc, hcc (j + i) (by omega)]
    simp [nus, hi]
set_option maxRecDepth 100000 in
theorem wf_u8 (n : Int) (h : (Lit.int .u8 n).wf = true) : 0 ≤ n ∧ n < (256 : Nat) := by have := bounds_u8 h; omega
set_option maxRecDepth 100000 in
theorem wf_u64 (n : Int) (h : (Lit.int .u64 n).wf = true) : 0 ≤ n ∧ n < (18446744073709551616 : Nat) := by have := bounds_u64 h; omega
set_option maxRecDepth 100000 in
theorem wf_i64 (n : Int) (h : (Lit.int .i64 n).wf = true) : -9223372036854775808 ≤ n ∧ n ≤ 9223372036854775807 := by have := bounds_i64 h; omega
end Go.Proofs.Ytimnmdeiiahakaa
