/- Texts that the walks of this seat lean on, put together. -/
import Derived.ProofKit
import Derived.OpenShut
import Derived.ChangeSame
import Derived.Lib.LaidTab
import Derived.Deep.DeepHandedRow
import Derived.LaidSub
import Derived.Test.YtcgaibkpdihncaaDoorTk
import Derived.Test.YtcgaibkpdihncaaDoorCards
import Derived.Test.YtcgaibkpdihncaaDoorM21
import Derived.Test.YtcgaibkpdihncaaDoorM25
import Derived.Test.YtcgaibkpdihncaaDoorM32
import Derived.Test.YtcgaibkpdihncaaDoorM34
import Derived.Test.YtcgaibkpdihncaaDoorTie
namespace Go.Proofs.YtcgaibkpdihncaaDoor
open Go.RowKit
def rft (cs : Array Value) (N : Nat) (v : Value) : Array Value := cs ++ (#[.int .i64 (N : Int), v] : Array Value)
theorem rft_get (cs : Array Value) (h : cs.size = 48) (N : Nat) (v : Value) : (rft cs N v)[48]? = some (.int .i64 (N : Int)) ∧ (rft cs N v)[49]? = some v := by
  unfold rft
  constructor <;> rw [Array.getElem?_append_right (by omega), h] <;> rfl
theorem rft_part (cs : Array Value) (N : Nat) (v : Value) : ((rft cs N v).toList.drop 0).take cs.toList.length = cs.toList := by
  unfold rft
  rw [List.drop_zero, Array.toList_append, List.take_left]
theorem rft_set (cs : Array Value) (h : cs.size = 48) (N : Nat) (v u : Value) : (rft cs N v).setIfInBounds 49 u = rft cs N u := by
  unfold rft
  apply Array.ext_getElem?
  intro i
  rw [Array.getElem?_setIfInBounds]
  by_cases e : 49 = i
  · subst e
    rw [if_pos rfl, if_pos (by simp [h]), Array.getElem?_append_right (by omega), h]; rfl
  · rw [if_neg e]
    by_cases hi : i < cs.size
    · rw [Array.getElem?_append_left hi, Array.getElem?_append_left hi]
    · rw [Array.getElem?_append_right (by omega), Array.getElem?_append_right (by omega), h]
      by_cases h48 : i = 48
      · subst h48; rfl
      · rw [Array.getElem?_eq_none (by simp; omega), Array.getElem?_eq_none (by simp; omega)]
theorem in_next (l : List Nat) (j b : Nat) (h : j < l.length) (h0 : (l.take j).contains b = false) : (l.take (j + 1)).contains b = decide (l.getD j 0 = b) := by
  rw [List.take_add_one, List.getElem?_eq_getElem h, Option.toList_some, List.getD_eq_getElem?_getD, List.getElem?_eq_getElem h, Option.getD_some]
  rw [Bool.eq_iff_iff, List.contains_iff_mem, List.mem_append, List.mem_singleton, decide_eq_true_iff]
  constructor
  · rintro (q | q)
    · rw [← List.contains_iff_mem, h0] at q; cases q
    · exact q.symm
  · intro q; exact .inr q.symm
theorem in_yes (l : List Nat) (j b : Nat) (h : (l.take j).contains b = true) : l.contains b = true := by
  rw [List.contains_iff_mem] at h ⊢
  exact List.mem_of_mem_take h
theorem in_bits (M N p : Nat) (h : p < N) : (bitsL M N).contains p = M.testBit p := by
  rw [Bool.eq_iff_iff, List.contains_iff_mem, bitsL_mem]
  exact ⟨fun q => q.2, fun q => ⟨h, q⟩⟩
theorem rd_shapeN {w : World} {v : Value} {k : IntKind} {zs : List Nat} (h : Rd w v (nus k zs)) : ∃ a cap, v = .slice a zs.length cap := by
  obtain ⟨a, cap, e, _⟩ := h
  rw [nus_length] at e
  exact ⟨a, cap, e⟩
end Go.Proofs.YtcgaibkpdihncaaDoor
namespace Go.Proofs.YtcgaibkpdihncaaDoor
open Go.RowKit
theorem row_rdI {w : World} {a : Option Addr} {len cap : Nat} {zs : List Int}
    (h : (a = none ∧ len = 0 ∧ cap = 0 ∧ zs = []) ∨ ∃ x, a = some x ∧ len ≤ cap ∧ cap ≤ maxLen ∧ zs.length = cap ∧ (∀ i, i < zs.length → w.cell? (x.add i) = some (.int .i64 (zs.getD i 0))) ∧ ∀ n ∈ zs, (Lit.int .i64 n).wf = true) :
    Rd w (.slice a len cap) (ivs (zs.take len)) := by
  rcases h with ⟨rfl, rfl, rfl, rfl⟩ | ⟨x, rfl, hl, hm, hz, hc, -⟩
  · exact ⟨none, 0, rfl, by simp [ivs], by simp [maxLen], .inl rfl⟩
  · have hlen : (ivs (zs.take len)).length = len := by simp [ivs]; omega
    refine ⟨some x, cap, by rw [hlen], by rw [hlen]; exact hl, hm, ?_⟩
    by_cases h0 : len = 0
    · exact .inl (by subst h0; simp [ivs])
    · obtain ⟨b, off, spot⟩ := x
      have h00 := hc 0 (by omega)
      have hspot : spot = none := by simpa [Addr.add] using World.cell?_spot h00
      subst hspot
      refine .inr ⟨b, off, rfl, ?_, fun i hi => ?_⟩
      · have := World.block_lt_of_cell? w _ h00
        simpa [Addr.add] using this
      · rw [hlen] at hi
        have h1 := hc i (by omega)
        have hadd : (⟨b, off, none⟩ : Addr).add i = ⟨b, off + i, none⟩ := by unfold Addr.add; split <;> simp_all
        rw [hadd] at h1
        rw [h1]
        simp [ivs, List.getD_eq_getElem?_getD, hi, List.getElem?_eq_getElem (show i < zs.length by omega)]
end Go.Proofs.YtcgaibkpdihncaaDoor
namespace Go.Proofs.YtcgaibkpdihncaaDoor
open Go.ChangeShapes Go.WideShapes Go.ChangeAt Go.RowKit
theorem own : ownKnob Tryd.prog.godebug = none := by kernel_rfl
theorem gTzType : (Tryd.prog.globals[0]?).map (·.type) = some 100 := by kernel_rfl
theorem env_of {W : World} (h : laidMet Tryd.prog [("math/bits.deBruijn64tab", Rows.laid_math_bits_deBruijn64tab)] W) : Env W := by
  have ht : laidMet Tryd.prog [("math/bits.deBruijn64tab", Lib.tabData .u8 tzI)] W := h
  exact Lib.tabIs_of_head (rest := []) gTz gTzType Tryd.underlying100 Tryd.underlying5 (by kernel_rfl) (by kernel_rfl) ht
end Go.Proofs.YtcgaibkpdihncaaDoor
