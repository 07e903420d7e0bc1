/- Texts that the walks of this seat lean on, put together. -/
import Derived.OpenShut
import Derived.Below
import Derived.RangeFuncRecord
import Derived.Test.YtcgaibkpdihncaaDoorTk
import Derived.Test.YtcgaibkpdihncaaDoorM08
namespace Go.Proofs.YtcgaibkpdihncaaDoor
open Go.RowKit
set_option maxRecDepth 100000 in
theorem rd_nil (w : World) (k : IntKind) : Rd w (.slice none 0 0) (nus k []) := ⟨none, 0, rfl, by simp [nus], by simp [maxLen], .inl rfl⟩
set_option maxRecDepth 100000 in
theorem rd_shape {w : World} {v : Value} {k : IntKind} {bs : List Nat} (h : Rd w v (nus k bs)) : ∃ a cap, v = .slice a bs.length cap ∧ bs.length ≤ cap ∧ cap ≤ maxLen := by
  obtain ⟨a, cap, rfl, h1, h2, _⟩ := h
  rw [nus_length] at h1 ⊢
  exact ⟨a, cap, rfl, h1, h2⟩
set_option maxRecDepth 100000 in
theorem Rd.cells {w : World} {a : Option Addr} {len cap : Nat} {k : IntKind} {bs : List Nat} (h : Rd w (.slice a len cap) (nus k bs)) (h0 : 0 < len) :
    ∃ b off, a = some ⟨b, off, none⟩ ∧ ∀ i, i < len → w.cell? ⟨b, off + i, none⟩ = some (.int k ((bs.getD i 0 : Nat) : Int)) := by
  obtain ⟨a', cap', e, _, _, h⟩ := h
  simp only [Value.slice.injEq] at e
  obtain ⟨rfl, rfl, rfl⟩ := e
  rw [nus_length] at h0 h
  rcases h with h | ⟨b, off, rfl, _, hc⟩
  · rw [(nus_nil _ _).1 h] at h0; cases h0
  · exact ⟨b, off, rfl, fun i hi => by rw [nus_length] at hi; rw [hc i hi, nus_get _ _ _ hi]⟩
set_option maxRecDepth 100000 in
theorem Rd.front {w : World} {a : Option Addr} {len cap : Nat} {k : IntKind} {bs : List Nat} (h : Rd w (.slice a len cap) (nus k bs)) (m : Nat) (hm : m ≤ bs.length) : Rd w (.slice a m cap) (nus k (bs.take m)) := by
  obtain ⟨a', cap', e, h1, h2, h3⟩ := h
  simp only [Value.slice.injEq] at e
  obtain ⟨rfl, rfl, rfl⟩ := e
  rw [nus_length] at h1 h3
  have hl : (nus k (bs.take m)).length = m := by rw [nus_length]; simp; omega
  refine ⟨_, _, by rw [hl], by rw [hl]; omega, h2, ?_⟩
  rcases h3 with h3 | ⟨b', off', he, hb, hcc⟩
  · obtain rfl := (nus_nil _ _).1 h3
    exact .inl (by simp [nus])
  · refine .inr ⟨b', off', he, hb, fun i hi => ?_⟩
    rw [hl] at hi
    rw [hcc i (by omega)]
    simp [nus, hi]
set_option maxRecDepth 100000 in
theorem Rd.sub {w : World} {b off len cap : Nat} {k : IntKind} {bs : List Nat} (h : Rd w (.slice (some ⟨b, off, none⟩) len cap) (nus k bs)) (j m : Nat) (hc : j + m ≤ len) : Rd w (.slice (some ⟨b, off + j, none⟩) m (cap - j)) (nus k ((bs.drop j).take m)) := by
  obtain ⟨a', cap', e, h1, h2, h3⟩ := h
  simp only [Value.slice.injEq] at e
  obtain ⟨e1, rfl, rfl⟩ := e
  rw [nus_length] at h1 h3 hc
  have hl : (nus k ((bs.drop j).take m)).length = m := by rw [nus_length]; simp; omega
  refine ⟨_, _, by rw [hl], by rw [hl]; omega, by omega, ?_⟩
  rcases h3 with h3 | ⟨b', off', he, hb, hcc⟩
  · obtain rfl := (nus_nil _ _).1 h3
    exact .inl (by simp [nus])
  · rw [← e1] at he
    cases he
    refine .inr ⟨b, off + j, rfl, hb, fun i hi => ?_⟩
    rw [hl] at hi
    rw [Nat.add_assoc, hcc (j + i) (by omega)]
    simp [nus, hi]
end Go.Proofs.YtcgaibkpdihncaaDoor
namespace Go.Proofs.YtcgaibkpdihncaaDoor
open Go.RowKit
set_option maxRecDepth 100000 in
theorem own_lit (w : World) (k : IntKind) (e : TypeId) (zs : List Nat) (n base : Nat) (hn : zs.length = n) (hm : n ≤ maxLen) (hb : base ≤ w.heap.size) :
    (w.alloc (.cells (nus k zs).toArray e)).ownsRow base e 1 (.slice (some ⟨w.heap.size, 0, none⟩) n n) n (nus k zs) :=
  own_of_heap (World.alloc_heap_new w _) hb (by rw [nus_length]; exact hn) hm
set_option maxRecDepth 100000 in
theorem rd_lit (w : World) (k : IntKind) (e : TypeId) (zs : List Nat) (n : Nat) (m : Nat × Nat) (hn : zs.length = n) (hm : n ≤ maxLen) :
    Rd (w.alloc (.cells (nus k zs).toArray e m)) (.slice (some ⟨w.heap.size, 0, none⟩) n n) (nus k zs) := by
  subst hn
  refine ⟨_, _, by rw [nus_length], by rw [nus_length]; exact Nat.le_refl _, hm, .inr ⟨_, _, rfl, by simp, fun i hi => ?_⟩⟩
  rw [Nat.zero_add, cell_of_row _ _ i (nus k zs).toArray e m (World.alloc_heap_new w _)]
  simp
set_option maxRecDepth 100000 in
theorem row_under {w w' : World} {base : Nat} {e : TypeId} {v : Value} {n : Nat} {xs : List Value} (h : w.ownsRow base e 1 v n xs) (hb : Below w.heap.size w w') : w'.ownsRow base e 1 v n xs := by
  obtain ⟨h1, h2⟩ := h
  refine ⟨h1, ?_⟩
  rcases h2 with h2 | ⟨g, cap', cur, rfl, hh, h4, hn, hm, h5⟩
  · exact .inl h2
  · refine .inr ⟨g, cap', cur, rfl, hh, ?_, hn, hm, h5⟩
    have hg : g < w.heap.size := (Array.getElem?_eq_some_iff.1 h4).1
    rw [hb.block g hg]; exact h4
set_option maxRecDepth 100000 in
theorem own_low {w : World} {b1 b2 : Nat} {e : TypeId} {v : Value} {n : Nat} {xs : List Value} (hb : b1 ≤ b2) (h : w.ownsRow b2 e 1 v n xs) : w.ownsRow b1 e 1 v n xs := by
  obtain ⟨h1, h2⟩ := h
  refine ⟨h1, ?_⟩
  rcases h2 with h2 | ⟨g, cap', cur, rfl, hh, h4⟩
  · exact .inl h2
  · exact .inr ⟨g, cap', cur, rfl, Nat.le_trans hb hh, h4⟩
set_option maxRecDepth 100000 in
theorem own_apart {w w' : World} {base g : Nat} {e : TypeId} {v : Value} {n : Nat} {xs : List Value} (h : w.ownsRow base e 1 v n xs) (hg : w.grownBy w' (some g)) (h0 : g < base) : w'.ownsRow base e 1 v n xs := by
  obtain ⟨h1, h2⟩ := h
  refine ⟨h1, ?_⟩
  rcases h2 with h2 | ⟨k, cap', cur, rfl, hh, h4, hn, hm, h5⟩
  · exact .inl h2
  · have hk : k < w.heap.size := (Array.getElem?_eq_some_iff.1 h4).1
    exact .inr ⟨k, cap', cur, rfl, hh, (hg.block k hk (by simp; omega)).trans h4, hn, hm, h5⟩
end Go.Proofs.YtcgaibkpdihncaaDoor
