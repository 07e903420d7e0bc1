/- Texts that the walks of this seat lean on, put together. -/
import Derived.ProofKit
import Derived.OpenShut
import Derived.ChangeSame
import Derived.Deep.DeepHandedRow
import Derived.LaidSub
import Derived.Test.YthionipmohbnhaaTk
import Derived.Test.YthionipmohbnhaaM01
import Derived.Test.YthionipmohbnhaaM02
import Derived.Test.YthionipmohbnhaaM04
namespace Go.Proofs.Ythionipmohbnhaa
open Go.ChangeShapes Go.WideShapes Go.ChangeAt Go.RowKit
set_option maxRecDepth 100000 in
theorem trod_addr {H : Type} {enc : TypeId × Value → H} {W : World} {base : Nat} {spare : Nat → Bool} {held : Bool} {fuel : Nat} {l : List Value} {y : DataW H × List MemPlace}
    (hf : DataW.trod enc Try.prog W base spare held fuel 25 l = some y) : ∃ b bs, l = (cellsA b bs).toList ∧ bs.length = 16 ∧ ∀ n ∈ bs, n < 256 := by
  have hC : Try.prog.cellsOf 25 = 17 := by kernel_rfl
  obtain ⟨y0, y1, n, _, hl, h0, h1⟩ := trod_struct2 Try.underlying25 hf
  have hc4 : Try.prog.cellsOf 4 = 1 := by kernel_rfl
  have hc5 : Try.prog.cellsOf 5 = 1 := by kernel_rfl
  have hc22 : Try.prog.cellsOf 23 = 16 := by kernel_rfl
  rw [hC] at hl
  have hl : l.length = 17 := hl
  have h0 : DataW.trod enc Try.prog W base spare held n 4 ((l.drop 0).take (Try.prog.cellsOf 4)) = some y0 := h0
  have h1 : DataW.trod enc Try.prog W base spare held n 23 ((l.drop 1).take (Try.prog.cellsOf 23)) = some y1 := h1
  rw [hc4] at h0
  rw [hc22] at h1
  obtain ⟨b, e0, _⟩ := DataW.trod_bool Try.underlying4 h0
  obtain ⟨xs, m, _, _, hl1, hx, hi⟩ := DataW.trod_array Try.underlying23 h1
  match l, hl with
  | c :: r, hl =>
    simp only [List.length_cons] at hl
    have hl : r.length = 16 := by omega
    have e0 : c = .bool b := by simpa using e0
    subst e0
    have hrr : List.take 16 (List.drop 1 (Value.bool b :: r)) = r := by simp [List.take_of_length_le (Nat.le_of_eq hl)]
    rw [hrr] at hi
    have hn : ∀ i, i < 16 → ∃ z : Nat, r[i]? = some (.int .u8 (z : Int)) ∧ z < 256 := fun i hi16 => by
      have h := hi i hi16
      rw [hc5, Nat.mul_one] at h
      rw [List.getElem?_eq_getElem (by omega)] at h
      obtain ⟨z, ez, _, hw⟩ := DataW.trod_int Try.underlying5 h
      obtain ⟨z0, z1⟩ := wf_u8 z hw
      have e : r[i]? = some (.int .u8 z) := by
        have := congrArg (·[0]?) ez
        simpa [List.getElem?_take, List.getElem?_drop] using this
      refine ⟨z.toNat, ?_, by omega⟩
      rw [e, Int.toNat_of_nonneg z0]
    refine ⟨b, r.map fun x => match x with | .int _ z => z.toNat | _ => 0, ?_, by simpa using hl, ?_⟩
    · unfold cellsA
      simp only []
      congr 1
      rw [List.map_map]
      refine (List.map_id r).symm.trans (List.map_congr_left fun x hx => ?_)
      obtain ⟨i, hi', ex⟩ := List.mem_iff_getElem.1 hx
      obtain ⟨z, ez, _⟩ := hn i (by omega)
      rw [List.getElem?_eq_getElem hi', ex] at ez
      obtain rfl := Option.some.inj ez
      simp
    · intro q hq
      obtain ⟨x, hx, rfl⟩ := List.mem_map.1 hq
      obtain ⟨i, hi', ex⟩ := List.mem_iff_getElem.1 hx
      obtain ⟨z, ez, hz⟩ := hn i (by omega)
      rw [List.getElem?_eq_getElem hi', ex] at ez
      obtain rfl := Option.some.inj ez
      simpa using hz
set_option maxRecDepth 100000 in
theorem open_dip {H : Type} {enc : TypeId × Value → H} {W : World} {base b0 : Nat} {spare : Nat → Bool} {held : Bool} {r : Reach} {v : Value} {d : DataW H} {p : List MemPlace}
    (hv : Value.okWide Try.prog W r b0 28 v) (h : DataW.Trod enc Try.prog W base spare held 28 v d p) : ∃ b bs tp, v = .agg (dcells (cellsA b bs) tp) ∧ bs.length = 16 ∧ (∀ n ∈ bs, n < 256) ∧ tp < 65536 := by
  obtain ⟨cs, rfl, hsz⟩ := okWide_struct Try.underlying28 hv
  have hC : Try.prog.cellsOf 28 = 18 := by kernel_rfl
  have hc25 : Try.prog.cellsOf 25 = 17 := by kernel_rfl
  have hc26 : Try.prog.cellsOf 26 = 1 := by kernel_rfl
  obtain ⟨fuel, hf⟩ := h
  obtain ⟨y0, y1, n, _, hl, h0, h1⟩ := trod_struct2 Try.underlying28 hf
  rw [hC] at hl
  obtain ⟨l⟩ := cs
  have hl : l.length = 18 := hl
  have h0 : DataW.trod enc Try.prog W base spare held n 25 ((l.drop 0).take (Try.prog.cellsOf 25)) = some y0 := h0
  have h1 : DataW.trod enc Try.prog W base spare held n 26 ((l.drop 17).take (Try.prog.cellsOf 26)) = some y1 := h1
  rw [hc25, List.drop_zero] at h0
  rw [hc26] at h1
  obtain ⟨b, bs, e, hb1, hb2⟩ := trod_addr h0
  obtain ⟨z, ez, _, hw⟩ := DataW.trod_int Try.underlying26 h1
  obtain ⟨z0, z1⟩ := bounds_u16 hw
  refine ⟨b, bs, z.toNat, ?_, hb1, hb2, by omega⟩
  have : l = l.take 17 ++ (l.drop 17).take 1 := by
    rw [List.take_of_length_le (show (l.drop 17).length ≤ 1 by rw [List.length_drop]; omega), List.take_append_drop]
  unfold dcells
  congr 2
  rw [this, e, ez, Int.toNat_of_nonneg z0]
end Go.Proofs.Ythionipmohbnhaa
