/- Texts that the walks of this seat lean on, put together. -/
import Derived.OpenShut
import Derived.Test.YtblkpnjmmdbgnaaTk
import Derived.Test.YtblkpnjmmdbgnaaM08
namespace Go.Proofs.Ytblkpnjmmdbgnaa
open Go.RowKit
set_option maxRecDepth 100000 in
theorem rd_nil (w : World) (k : IntKind) : Rd w (.slice none 0 0) (nus k []) := ⟨none, 0, rfl, by simp [nus], by simp [maxLen], .inl rfl⟩
set_option maxRecDepth 100000 in
theorem rd_shape {w : World} {v : Value} {k : IntKind} {bs : List Nat} (h : Rd w v (nus k bs)) : ∃ a cap, v = .slice a bs.length cap ∧ bs.length ≤ cap ∧ cap ≤ maxLen := by
  obtain ⟨a, cap, rfl, h1, h2, _⟩ := h
  rw [nus_length] at h1 ⊢
  exact ⟨a, cap, rfl, h1, h2⟩
set_option maxRecDepth 100000 in
theorem Rd.cells {w : World} {a : Option Addr} {len cap : Nat} {k : IntKind} {bs : List Nat} (h : Rd w (.slice a len cap) (nus k bs)) (h0 : 0 < len) :
    ∃ b off, a = some ⟨b, off, none⟩ ∧ ∀ i, i < len → w.cell? ⟨b, off + i, none⟩ = some (.int k ((bs.getD i 0 : Nat) : Int)) := by
  obtain ⟨a', cap', e, _, _, h⟩ := h
  simp only [Value.slice.injEq] at e
  obtain ⟨rfl, rfl, rfl⟩ := e
  rw [nus_length] at h0 h
  rcases h with h | ⟨b, off, rfl, _, hc⟩
  · rw [(nus_nil _ _).1 h] at h0; cases h0
  · exact ⟨b, off, rfl, fun i hi => by rw [nus_length] at hi; rw [hc i hi, nus_get _ _ _ hi]⟩
set_option maxRecDepth 100000 in
theorem wf_u8 (n : Int) (h : (Lit.int .u8 n).wf = true) : 0 ≤ n ∧ n < (256 : Nat) := by have := bounds_u8 h; omega
end Go.Proofs.Ytblkpnjmmdbgnaa
