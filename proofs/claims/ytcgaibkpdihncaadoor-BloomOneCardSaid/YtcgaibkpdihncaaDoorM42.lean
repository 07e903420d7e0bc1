/- Texts that the walks of this seat lean on, put together. -/
import Derived.ProofKit
import Derived.OpenShut
import Derived.ChangeSame
import Derived.Lib.LaidTab
import Derived.Deep.DeepHandedRow
import Derived.LaidSub
import Derived.Test.YtcgaibkpdihncaaDoorTk
import Derived.Test.YtcgaibkpdihncaaDoorCards
import Derived.Test.YtcgaibkpdihncaaDoorM22
import Derived.Test.YtcgaibkpdihncaaDoorM27
import Derived.Test.YtcgaibkpdihncaaDoorM34
import Derived.Test.YtcgaibkpdihncaaDoorM36
import Derived.Test.YtcgaibkpdihncaaDoorTie
namespace Go.Proofs.YtcgaibkpdihncaaDoor
open Go.RowKit
def rft (cs : Array Value) (N : Nat) (v : Value) : Array Value := cs ++ (#[.int .i64 (N : Int), v] : Array Value)
end Go.Proofs.YtcgaibkpdihncaaDoor
namespace Go.Proofs.YtcgaibkpdihncaaDoor
open Go.RowKit
theorem row_rdI {w : World} {a : Option Addr} {len cap : Nat} {zs : List Int}
    (h : (a = none ∧ len = 0 ∧ cap = 0 ∧ zs = []) ∨ ∃ x, a = some x ∧ len ≤ cap ∧ cap ≤ maxLen ∧ zs.length = cap ∧ (∀ i, i < zs.length → w.cell? (x.add i) = some (.int .i64 (zs.getD i 0))) ∧ ∀ n ∈ zs, (Lit.int .i64 n).wf = true) :
    Rd w (.slice a len cap) (ivs (zs.take len)) := by
  rcases h with ⟨rfl, rfl, rfl, rfl⟩ | ⟨x, rfl, hl, hm, hz, hc, -⟩
  · exact ⟨none, 0, rfl, by simp [ivs], by simp [maxLen], .inl rfl⟩
  · have hlen : (ivs (zs.take len)).length = len := by simp [ivs]; omega
    refine ⟨some x, cap, by rw [hlen], by rw [hlen]; exact hl, hm, ?_⟩
    by_cases h0 : len = 0
    · exact .inl (by subst h0; simp [ivs])
    · obtain ⟨b, off, spot⟩ := x
      have h00 := hc 0 (by omega)
      have hspot : spot = none := by simpa [Addr.add] using World.cell?_spot h00
      subst hspot
      refine .inr ⟨b, off, rfl, ?_, fun i hi => ?_⟩
      · have := World.block_lt_of_cell? w _ h00
        simpa [Addr.add] using this
      · rw [hlen] at hi
        have h1 := hc i (by omega)
        have hadd : (⟨b, off, none⟩ : Addr).add i = ⟨b, off + i, none⟩ := by unfold Addr.add; split <;> simp_all
        rw [hadd] at h1
        rw [h1]
        simp [ivs, List.getD_eq_getElem?_getD, hi, List.getElem?_eq_getElem (show i < zs.length by omega)]
end Go.Proofs.YtcgaibkpdihncaaDoor
namespace Go.Proofs.YtcgaibkpdihncaaDoor
open Go.ChangeShapes Go.WideShapes Go.ChangeAt Go.RowKit
theorem own : ownKnob Tryd.prog.godebug = none := by kernel_rfl
theorem gTzType : (Tryd.prog.globals[0]?).map (·.type) = some 100 := by kernel_rfl
theorem env_of {W : World} (h : laidMet Tryd.prog [("math/bits.deBruijn64tab", Rows.laid_math_bits_deBruijn64tab)] W) : Env W := by
  have ht : laidMet Tryd.prog [("math/bits.deBruijn64tab", Lib.tabData .u8 tzI)] W := h
  exact Lib.tabIs_of_head (rest := []) gTz gTzType Tryd.underlying100 Tryd.underlying5 (by kernel_rfl) (by kernel_rfl) ht
end Go.Proofs.YtcgaibkpdihncaaDoor
