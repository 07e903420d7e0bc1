/- From what the row lists to what the walks ask; an address that came in. -/
import Derived.Test.YtjcmidgeddhfoaaDoorCards
import Derived.Test.YtjcmidgeddhfoaaDoorTie
import Derived.Test.YtjcmidgeddhfoaaDoorP4
import Derived.Test.YtjcmidgeddhfoaaDoorRow
import Derived.ProofKit
import Derived.OpenShut
import Derived.ChangeSame
import Derived.Deep.DeepHandedRow
import Derived.Lib.LaidTab
import Derived.Lib.LaidU8
import Derived.LaidSub
namespace Go.Proofs.YtjcmidgeddhfoaaDoor
open Go.ChangeShapes Go.WideShapes Go.ChangeAt Go.RowKit

theorem own : ownKnob Tryd.prog.godebug = none := by kernel_rfl
theorem gTab : Tryd.prog.globalNamed "internal/strconv.uint64pow10" = some 1 := by kernel_rfl
theorem gTabType : (Tryd.prog.globals[1]?).map (·.type) = some 76 := by kernel_rfl
theorem gSyn : Tryd.prog.globalNamed "strconv.ErrSyntax" = some 2 := by kernel_rfl
theorem gSynType : (Tryd.prog.globals[2]?).map (·.type) = some 56 := by kernel_rfl
theorem gRng : Tryd.prog.globalNamed "strconv.ErrRange" = some 3 := by kernel_rfl
theorem gRngType : (Tryd.prog.globals[3]?).map (·.type) = some 56 := by kernel_rfl

theorem iface_of {W : World} {n : String} {g : Nat} {nm : String} {x : DataW Unit} (hg : Tryd.prog.globalNamed n = some g) (ht : (Tryd.prog.globals[g]?).map (·.type) = some 56)
    (h : Lib.VarReads Tryd.prog W n (.iface nm x)) : ∃ ev, W.cell? ⟨g, 0, none⟩ = some ev ∧ (ev = .nilIface ∨ ∃ te pe, ev = .iface te pe) := by
  obtain ⟨g', t, cs, fuel, p, h1, h2, h3, h4⟩ := h
  obtain rfl := Option.some.inj (hg.symm.trans h1)
  obtain rfl := Option.some.inj (ht.symm.trans h2)
  have hc := World.var?_cell hg h3 0
  obtain ⟨l⟩ := cs
  cases fuel with
  | zero => simp [DataW.trod] at h4
  | succ fuel =>
    unfold DataW.trod at h4
    rw [Tryd.underlying56] at h4
    simp only at h4
    split at h4
    all_goals first
      | (simp at h4; done)
      | (exact ⟨_, hc, .inr ⟨_, _, rfl⟩⟩)
      | (refine ⟨_, by simpa using hc, .inr ⟨_, _, rfl⟩⟩)
      | (split at h4 <;> simp at h4; done)
      | (exfalso; rename_i hq _; cases hq; done)
      | (exfalso; simp_all; done)
      | (exfalso; rename_i hq; cases hq; done)

theorem cell_lt {W : World} {a : Addr} {v : Value} (h : W.cell? a = some v) : a.block < W.heap.size := by
  rcases Nat.lt_or_ge a.block W.heap.size with h1 | h1
  · exact h1
  · simp [World.cell?, Array.getElem?_eq_none h1] at h

theorem env_of {W : World} (h : laidMet Tryd.prog [("math/bits.deBruijn32tab", Rows.laid_math_bits_deBruijn32tab), ("math/bits.deBruijn64tab", Rows.laid_math_bits_deBruijn64tab), ("internal/strconv.uint64pow10", Rows.laid_internal_strconv_uint64pow10), ("strconv.ErrRange", Rows.laid_strconv_ErrRange), ("strconv.ErrSyntax", Rows.laid_strconv_ErrSyntax)] W) : Env W := by
  have ht : laidMet Tryd.prog [("internal/strconv.uint64pow10", Lib.tabData .u64 Lib.pow10Tab)] W := h.filter fun x => x.1 == "internal/strconv.uint64pow10"
  have hr := iface_of gRng gRngType (Lib.laidMet.reads h (n := "strconv.ErrRange") (by simp; rfl))
  have hz : 4 ≤ W.heap.size := by obtain ⟨ev, hc, _⟩ := hr; exact cell_lt hc
  refine ⟨Lib.tabIs_of_head (rest := []) gTab gTabType Tryd.underlying76 Tryd.underlying54 (by kernel_rfl) (by kernel_rfl) ht, ?_, ?_, hz⟩
  · exact iface_of gSyn gSynType (Lib.laidMet.reads h (n := "strconv.ErrSyntax") (by simp; rfl))
  · exact hr

theorem open_addr {H : Type} {enc : TypeId × Value → H} {W : World} {base b0 : Nat} {spare : Nat → Bool} {held : Bool} {r : Reach} {v : Value} {d : DataW H} {p : List MemPlace}
    (hv : Value.okWide Tryd.prog W r b0 24 v) (h : DataW.Trod enc Tryd.prog W base spare held 24 v d p) : ∃ b bs, v = adr b bs ∧ bs.length = 16 ∧ ∀ n ∈ bs, n < 256 := by
  obtain ⟨cs, rfl, hsz⟩ := okWide_struct Tryd.underlying24 hv
  have hC : Tryd.prog.cellsOf 24 = 17 := by kernel_rfl
  obtain ⟨fuel, hf⟩ := h
  obtain ⟨y0, y1, n, _, hl, h0, h1⟩ := trod_struct2 Tryd.underlying24 hf
  have hc4 : Tryd.prog.cellsOf 4 = 1 := by kernel_rfl
  have hc5 : Tryd.prog.cellsOf 5 = 1 := by kernel_rfl
  have hc22 : Tryd.prog.cellsOf 22 = 16 := by kernel_rfl
  rw [hC] at hl
  obtain ⟨l⟩ := cs
  have hl : l.length = 17 := hl
  have h0 : DataW.trod enc Tryd.prog W base spare held n 4 ((l.drop 0).take (Tryd.prog.cellsOf 4)) = some y0 := h0
  have h1 : DataW.trod enc Tryd.prog W base spare held n 22 ((l.drop 1).take (Tryd.prog.cellsOf 22)) = some y1 := h1
  rw [hc4] at h0
  rw [hc22] at h1
  obtain ⟨b, e0, _⟩ := DataW.trod_bool Tryd.underlying4 h0
  obtain ⟨xs, m, _, _, hl1, hx, hi⟩ := DataW.trod_array Tryd.underlying22 h1
  match l, hl with
  | c :: r, hl =>
    simp only [List.length_cons] at hl
    have hl : r.length = 16 := by omega
    have e0 : c = .bool b := by simpa using e0
    subst e0
    have hrr : List.take 16 (List.drop 1 (Value.bool b :: r)) = r := by simp [List.take_of_length_le (Nat.le_of_eq hl)]
    rw [hrr] at hi
    have hn : ∀ i, i < 16 → ∃ z : Nat, r[i]? = some (.int .u8 (z : Int)) ∧ z < 256 := fun i hi16 => by
      have h := hi i hi16
      rw [hc5, Nat.mul_one] at h
      rw [List.getElem?_eq_getElem (by omega)] at h
      obtain ⟨z, ez, _, hw⟩ := DataW.trod_int Tryd.underlying5 h
      obtain ⟨z0, z1⟩ := wf_u8 z hw
      have e : r[i]? = some (.int .u8 z) := by
        have := congrArg (·[0]?) ez
        simpa [List.getElem?_take, List.getElem?_drop] using this
      refine ⟨z.toNat, ?_, by omega⟩
      rw [e, Int.toNat_of_nonneg z0]
    refine ⟨b, r.map fun x => match x with | .int _ z => z.toNat | _ => 0, ?_, by simpa using hl, ?_⟩
    · unfold adr cellsA
      congr 3
      rw [List.map_map]
      refine (List.map_id r).symm.trans (List.map_congr_left fun x hx => ?_)
      obtain ⟨i, hi', ex⟩ := List.mem_iff_getElem.1 hx
      obtain ⟨z, ez, _⟩ := hn i (by omega)
      rw [List.getElem?_eq_getElem hi', ex] at ez
      obtain rfl := Option.some.inj ez
      simp
    · intro q hq
      obtain ⟨x, hx, rfl⟩ := List.mem_map.1 hq
      obtain ⟨i, hi', ex⟩ := List.mem_iff_getElem.1 hx
      obtain ⟨z, ez, hz⟩ := hn i (by omega)
      rw [List.getElem?_eq_getElem hi', ex] at ez
      obtain rfl := Option.some.inj ez
      simpa using hz
end Go.Proofs.YtjcmidgeddhfoaaDoor
