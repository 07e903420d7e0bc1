/- Texts that the walks of this seat lean on, put together. -/
import Derived.Laws.BytesArg
import Derived.Test.YthkaadcgiplolaaDoorTk
import Derived.Test.YthkaadcgiplolaaDoorM08
namespace Go.Proofs.YthkaadcgiplolaaDoor
open Go.RowKit
def str (zs : List Nat) : ByteArray := ⟨(zs.map UInt8.ofNat).toArray⟩
theorem str_inj (a b : List Nat) (ha : ∀ c ∈ a, c < 256) (hb : ∀ c ∈ b, c < 256) (h : str a = str b) : a = b := by
  have h1 : a.map UInt8.ofNat = b.map UInt8.ofNat := by
    have := congrArg (fun s : ByteArray => s.data.toList) h
    simpa [str] using this
  have h2 : ∀ l : List Nat, (∀ c ∈ l, c < 256) → (l.map UInt8.ofNat).map UInt8.toNat = l := by
    intro l hl
    rw [List.map_map]
    conv => rhs; rw [← List.map_id l]
    apply List.map_congr_left
    intro c hc
    have := hl c hc
    simp only [Function.comp_apply, id_eq, UInt8.toNat_ofNat']
    omega
  rw [← h2 a ha, ← h2 b hb, h1]
theorem strOfNums_nat (zs : List Nat) : strOfNums (zs.map fun n : Nat => (n : Int)) = str zs := by
  unfold strOfNums str
  rw [List.map_map]
  rfl
theorem conv_rd {P : Program} (w : World) (src dst e : TypeId) (hs : P.underlying src = some (.slice e)) (he : P.underlying e = some (.int .u8)) (hd : P.underlying dst = some .string) (v : Value) (zs : List Nat) (h : Rd w v (nus .u8 zs)) :
    (convert src dst v).run P w = .ok (.string (str zs)) w := by
  obtain ⟨a, cap, rfl, _, _, hx⟩ := h
  rw [nus_length] at hx ⊢
  rw [← strOfNums_nat]
  rcases hx with hx | ⟨b, off, rfl, _, hc⟩
  · obtain rfl := (nus_nil _ _).1 hx
    cases a with
    | none => exact run_convert_bytes_nil w src e hs he _ _ dst hd
    | some ad =>
      rw [run_convert_bytes_string w src dst e _ _ _ hs he hd, List.length_nil, run_bytesToString w ad 0 cap [] (by simp [loadCells, go_sem])]
      rfl
  · exact run_convert_bytes_arg w src e hs he b off zs.length cap (zs.map fun n : Nat => (n : Int)) (by simp) (fun i hi => by
      rw [hc i hi, nus_get _ _ _ hi]
      simp [List.getD_eq_getElem?_getD, List.getElem?_eq_getElem hi]) dst hd
end Go.Proofs.YthkaadcgiplolaaDoor
