/- Texts that the walks of this seat lean on, put together. -/
import Derived.WalkSpells
import Derived.WalkLawsBesides
import Derived.Laws.CopyOwn
import Derived.Test.YthldpnifodbheaaTk
import Derived.Test.YthldpnifodbheaaTl
import Derived.Test.YthldpnifodbheaaM04
namespace Go.Proofs.Ythldpnifodbheaa
open Go.RowKit
def Rd (w : World) (v : Value) (xs : List Value) : Prop :=
  ∃ a cap, v = .slice a xs.length cap ∧ xs.length ≤ cap ∧ cap ≤ maxLen ∧
    (xs = [] ∨ ∃ b off, a = some ⟨b, off, none⟩ ∧ b < w.heap.size ∧ ∀ i, i < xs.length → w.cell? ⟨b, off + i, none⟩ = xs[i]?)
def nus (k : IntKind) (zs : List Nat) : List Value := zs.map fun n : Nat => .int k (n : Int)
set_option maxRecDepth 100000 in
theorem nus_length (k : IntKind) (zs : List Nat) : (nus k zs).length = zs.length := by simp [nus]
set_option maxRecDepth 100000 in
theorem nus_append (k : IntKind) (a b : List Nat) : nus k (a ++ b) = nus k a ++ nus k b := by simp [nus]
set_option maxRecDepth 100000 in
theorem nus_nil (k : IntKind) (zs : List Nat) : nus k zs = [] ↔ zs = [] := by simp [nus]
set_option maxRecDepth 100000 in
theorem nus_get (k : IntKind) (zs : List Nat) (i : Nat) (h : i < zs.length) : (nus k zs)[i]? = some (.int k ((zs.getD i 0 : Nat) : Int)) := by
  simp [nus, List.getElem?_eq_getElem h, List.getD_eq_getElem?_getD]
set_option maxRecDepth 100000 in
theorem Rd.below {w w' : World} {v : Value} {xs : List Value} (h : Rd w v xs) (hb : Below w.heap.size w w') : Rd w' v xs := by
  obtain ⟨a, cap, rfl, h1, h2, h3⟩ := h
  refine ⟨a, cap, rfl, h1, h2, ?_⟩
  rcases h3 with h3 | ⟨b, off, rfl, hlt, hc⟩
  · exact .inl h3
  · exact .inr ⟨b, off, rfl, Nat.lt_of_lt_of_le hlt hb.size, fun i hi => by rw [hb.cell (p := ⟨b, off + i, none⟩) hlt]; exact hc i hi⟩
set_option maxRecDepth 100000 in
theorem Rd.own {w : World} {base : Nat} {e : TypeId} {v : Value} {n : Nat} {xs : List Value} (h : w.ownsRow base e 1 v n xs) : Rd w v xs := by
  have h0 := h
  obtain ⟨h1, h2⟩ := h
  rcases h2 with ⟨rfl, rfl⟩ | ⟨g, cap, cur, rfl, hg, hh, hn, hm, hs, ht⟩
  · obtain rfl : xs = [] := List.eq_nil_of_length_eq_zero (by simpa using h1)
    exact ⟨none, 0, rfl, by simp, by simp [maxLen], .inl rfl⟩
  · have hl : xs.length = n := by simpa using h1
    subst hl
    refine ⟨_, cap, rfl, hn, hm, ?_⟩
    by_cases hx : xs = []
    · exact .inl hx
    · refine .inr ⟨g, 0, rfl, ?_, fun i hi => ?_⟩
      · exact (Array.getElem?_eq_some_iff.1 hh).1
      · rw [Nat.zero_add]; exact h0.cellAt i (by omega)
set_option maxRecDepth 100000 in
theorem Rd.src {w : World} {a : Option Addr} {len cap : Nat} {xs : List Value} (h : Rd w (.slice a len cap) xs) (h0 : 0 < xs.length) :
    ∃ ad, a = some ad ∧ ∀ j v, xs[j]? = some v → w.cell? (ad.add j) = some v := by
  obtain ⟨a', cap', he, h1, h2, h3⟩ := h
  simp only [Value.slice.injEq] at he
  obtain ⟨rfl, rfl, rfl⟩ := he
  rcases h3 with rfl | ⟨b, off, rfl, hlt, hc⟩
  · simp at h0
  · refine ⟨_, rfl, fun j v hj => ?_⟩
    have hjl : j < xs.length := (List.getElem?_eq_some_iff.1 hj).1
    rw [show (⟨b, off, none⟩ : Addr).add j = ⟨b, off + j, none⟩ from by unfold Addr.add; split <;> simp_all, hc j hjl]
    exact hj
set_option maxRecDepth 100000 in
theorem own_heap {w : World} {base g n : Nat} {e : TypeId} {xs : List Value} (h : w.ownsRow base e 1 (.slice (some ⟨g, 0, none⟩) n n) n xs) :
    w.heap[g]? = some (.cells xs.toArray e (0, 0)) ∧ base ≤ g := by
  rcases h.2 with ⟨h', _⟩ | ⟨g', cap', cur, h', hb, hg, hnc, hcm, hcs, htake⟩
  · simp at h'
  · simp only [Value.slice.injEq, Option.some.injEq, Addr.mk.injEq, and_true, true_and] at h'
    obtain ⟨rfl, rfl⟩ := h'
    refine ⟨?_, hb⟩
    rw [hg, ← htake]
    rw [List.take_of_length_le (by simp; omega)]
set_option maxRecDepth 100000 in
theorem own_of_heap {w : World} {base g n : Nat} {e : TypeId} {xs : List Value} (h : w.heap[g]? = some (.cells xs.toArray e (0, 0))) (hb : base ≤ g) (hn : xs.length = n) (hm : n ≤ maxLen) :
    w.ownsRow base e 1 (.slice (some ⟨g, 0, none⟩) n n) n xs :=
  ⟨by simpa using hn, .inr ⟨g, n, xs.toArray, rfl, hb, h, Nat.le_refl _, hm, by simpa using hn, by simp [List.take_of_length_le, hn]⟩⟩
set_option maxRecDepth 100000 in
theorem oneCell_nus (k : IntKind) (zs : List Nat) : ∀ u ∈ nus k zs, u.oneCell' = true := by
  intro u hu
  obtain ⟨n, _, rfl⟩ := List.mem_map.1 hu
  rfl
end Go.Proofs.Ythldpnifodbheaa
