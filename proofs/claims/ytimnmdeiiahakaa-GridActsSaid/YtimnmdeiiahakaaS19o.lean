/- A place and a row of acts that came in, opened. -/
import Derived.Test.YtimnmdeiiahakaaS19a
import Derived.Test.YtimnmdeiiahakaaRow
import Derived.ProofKit
import Derived.OpenShut
import Derived.ChangeSame
import Derived.ChangeSlices
import Derived.Deep.DeepHandedRow
import Derived.LoopTactic
import Derived.Handy
namespace Go.Proofs.Ytimnmdeiiahakaa
open Go.ChangeShapes Go.WideShapes Go.ChangeAt Go.RowKit

def W64 (n : Int) : Prop := (Lit.int .i64 n).wf = true
/-- An act: its kind, its place's two numbers, its value. -/
structure Ac where
  kd : Int
  ps : Int
  pi : Int
  v : Int
def Ac.Fit (x : Ac) : Prop := W64 x.kd ∧ W64 x.ps ∧ W64 x.pi ∧ W64 x.v
def acell (x : Ac) : List Value := [.int .i64 x.kd, .int .i64 x.ps, .int .i64 x.pi, .int .i64 x.v]
/-- A slice that reads as these acts. -/
def RdA (w : World) (v : Value) (L : List Ac) : Prop :=
  ∃ (a : Option Addr) (cap : Nat), v = .slice a L.length cap ∧ (L = [] ∨ ∃ b off, a = some ⟨b, off, none⟩ ∧ b < w.heap.size ∧ ∀ n j x, L[n]? = some x → j < 4 → w.cell? ⟨b, off + n * 4 + j, none⟩ = (acell x)[j]?)
theorem RdA.below {w w' : World} {v : Value} {L : List Ac} (h : RdA w v L) (hb : Below w.heap.size w w') : RdA w' v L := by
  obtain ⟨a, cap, rfl, h2⟩ := h
  refine ⟨a, cap, rfl, ?_⟩
  rcases h2 with h2 | ⟨b, off, rfl, hl, hc⟩
  · exact .inl h2
  · refine .inr ⟨b, off, rfl, Nat.lt_of_lt_of_le hl hb.size, fun n j x hx hj => ?_⟩
    rw [← hc n j x hx hj]
    unfold World.cell?
    rw [hb.block b hl]

set_option maxRecDepth 100000 in
theorem two_open {H : Type} {enc : TypeId × Value → H} {W : World} {base fuel : Nat} {spare : Nat → Bool} {held : Bool} {l : List Value} {x : DataW H × List MemPlace}
    (hf : DataW.trod enc Try.prog W base spare held fuel 30 l = some x) : ∃ a b : Int, l = [.int .i64 a, .int .i64 b] ∧ W64 a ∧ W64 b := by
  have hC : Try.prog.cellsOf 30 = 2 := by kernel_rfl
  have hc3 : Try.prog.cellsOf 3 = 1 := by kernel_rfl
  obtain ⟨y0, y1, n, _, hl, h0, h1⟩ := trod_struct2 Try.underlying30 hf
  rw [hC] at hl
  have h0 : DataW.trod enc Try.prog W base spare held n 3 ((l.drop 0).take (Try.prog.cellsOf 3)) = some y0 := h0
  have h1 : DataW.trod enc Try.prog W base spare held n 3 ((l.drop 1).take (Try.prog.cellsOf 3)) = some y1 := h1
  rw [hc3] at h0 h1
  obtain ⟨z0, e0, _, w0⟩ := DataW.trod_int Try.underlying3 h0
  obtain ⟨z1, e1, _, w1⟩ := DataW.trod_int Try.underlying3 h1
  match l, hl with
  | [c, d], _ =>
    refine ⟨z0, z1, ?_, w0, w1⟩
    have q0 : c = .int .i64 z0 := by simpa using e0
    have q1 : d = .int .i64 z1 := by simpa using e1
    rw [q0, q1]
theorem open_place {H : Type} {enc : TypeId × Value → H} {W : World} {base b0 : Nat} {spare : Nat → Bool} {held : Bool} {r : Reach} {v : Value} {d : DataW H} {p : List MemPlace}
    (hv : Value.okWide Try.prog W r b0 30 v) (h : DataW.Trod enc Try.prog W base spare held 30 v d p) : ∃ a b : Int, v = .agg (plA a b) ∧ W64 a ∧ W64 b := by
  obtain ⟨cs, rfl, hsz⟩ := okWide_struct Try.underlying30 hv
  obtain ⟨fuel, hf⟩ := h
  obtain ⟨l⟩ := cs
  replace hf : DataW.trod enc Try.prog W base spare held fuel 30 l = some (d, p) := hf
  obtain ⟨a, b, rfl, wa, wb⟩ := two_open hf
  exact ⟨a, b, rfl, wa, wb⟩
set_option maxRecDepth 100000 in
theorem act_open {H : Type} {enc : TypeId × Value → H} {W : World} {base fuel : Nat} {spare : Nat → Bool} {held : Bool} {l : List Value} {x : DataW H × List MemPlace}
    (hf : DataW.trod enc Try.prog W base spare held fuel 32 l = some x) : ∃ y : Ac, l = acell y ∧ y.Fit := by
  have hC : Try.prog.cellsOf 32 = 4 := by kernel_rfl
  have hc3 : Try.prog.cellsOf 3 = 1 := by kernel_rfl
  have hc30 : Try.prog.cellsOf 30 = 2 := by kernel_rfl
  obtain ⟨xs, n, _, _, hl, hlen, hx⟩ := DataW.trod_struct Try.underlying32 hf
  rw [hC] at hl
  match xs, hlen with
  | [y0, y1, y2], _ =>
    have h0 : DataW.trod enc Try.prog W base spare held n 3 ((l.drop 0).take (Try.prog.cellsOf 3)) = some y0 := by simpa using hx 0 _ rfl
    have h1 : DataW.trod enc Try.prog W base spare held n 30 ((l.drop 1).take (Try.prog.cellsOf 30)) = some y1 := by simpa using hx 1 _ rfl
    have h2 : DataW.trod enc Try.prog W base spare held n 3 ((l.drop 3).take (Try.prog.cellsOf 3)) = some y2 := by simpa using hx 2 _ rfl
    rw [hc3] at h0 h2
    rw [hc30] at h1
    obtain ⟨z0, e0, _, w0⟩ := DataW.trod_int Try.underlying3 h0
    obtain ⟨z3, e3, _, w3⟩ := DataW.trod_int Try.underlying3 h2
    obtain ⟨a, b, e1, wa, wb⟩ := two_open h1
    match l, hl with
    | [c0, c1, c2, c3], _ =>
      refine ⟨⟨z0, a, b, z3⟩, ?_, w0, wa, wb, w3⟩
      have q0 : c0 = .int .i64 z0 := by simpa using e0
      have q3 : c3 = .int .i64 z3 := by simpa using e3
      have q1 : c1 = .int .i64 a ∧ c2 = .int .i64 b := by simpa using e1
      rw [q0, q1.1, q1.2, q3]
      rfl
set_option maxRecDepth 100000 in
theorem open_acts {H : Type} {enc : TypeId × Value → H} {W : World} {base b0 : Nat} {spare : Nat → Bool} {held : Bool} {r : Reach} {v : Value} {d : DataW H} {p : List MemPlace}
    (hv : Value.okWide Try.prog W r b0 22 v) (h : DataW.Trod enc Try.prog W base spare held 22 v d p) : ∃ L : List Ac, RdA W v L ∧ (∀ x ∈ L, x.Fit) ∧ L.length ≤ maxLen := by
  obtain ⟨a, len, cap, rfl⟩ := okWide_slice Try.underlying22 hv
  obtain ⟨fuel, hf⟩ := h
  have hC : Try.prog.cellsOf 32 = 4 := by kernel_rfl
  rcases DataW.trod_slice Try.underlying22 hf with ⟨hcs, _⟩ | ⟨a', len', cap', elems, rest, n, _, hcs, _, hb, hl, hm, hlen, hel, _, _⟩
  · simp [Value.cells] at hcs
    obtain ⟨rfl, rfl, rfl⟩ := hcs
    exact ⟨[], ⟨_, _, rfl, .inl rfl⟩, fun x hx => absurd hx List.not_mem_nil, Nat.zero_le _⟩
  · simp [Value.cells] at hcs
    obtain ⟨rfl, rfl, rfl⟩ := hcs
    have each : ∀ i, i < len → ∃ y : Ac, y.Fit ∧ ∀ j, j < 4 → W.cell? ((a'.add (i * 4)).add j) = (acell y)[j]? := fun i hi => by
      have hq := hel i hi
      rw [hC, List.getElem?_eq_getElem (by omega), Option.bind_eq_some_iff] at hq
      obtain ⟨cs, hcs, hy⟩ := hq
      obtain ⟨y, rfl, hfit⟩ := act_open hy
      refine ⟨y, hfit, fun j hj => ?_⟩
      obtain ⟨_, hsz, hcell⟩ := World.cells?_some hcs
      exact hcell j hj
    obtain ⟨f, hf2⟩ := Classical.axiomOfChoice (r := fun (i : Fin len) (y : Ac) => y.Fit ∧ ∀ j, j < 4 → W.cell? ((a'.add (i.1 * 4)).add j) = (acell y)[j]?) (fun i => each i.1 i.2)
    have hlenL : (List.ofFn f).length = len := by simp
    refine ⟨List.ofFn f, ⟨some a', cap, by rw [hlenL], ?_⟩, ?_, by rw [hlenL]; exact Nat.le_trans hl hm⟩
    · by_cases h0 : len = 0
      · left; apply List.eq_nil_of_length_eq_zero; rw [hlenL, h0]
      · right
        obtain ⟨b, off, spot⟩ := a'
        have h00 := (hf2 ⟨0, by omega⟩).2 0 (by omega)
        have hspot : spot = none := by
          have q : W.cell? ((⟨b, off, spot⟩ : Addr).add (0 * 4) |>.add 0) = some (.int .i64 (f ⟨0, by omega⟩).kd) := h00
          simp only [Nat.zero_mul] at q
          have := World.cell?_spot q
          simpa [Addr.add] using this
        subst hspot
        refine ⟨b, off, rfl, ?_, fun k j x hx hj => ?_⟩
        · have q : W.cell? ((⟨b, off, none⟩ : Addr).add (0 * 4) |>.add 0) = some (.int .i64 (f ⟨0, by omega⟩).kd) := h00
          have := World.block_lt_of_cell? W _ q
          simpa [Addr.add] using this
        · have hk : k < len := by
            have := (List.getElem?_eq_some_iff.1 hx).1
            rw [hlenL] at this; exact this
          have hx2 : x = f ⟨k, hk⟩ := by
            rw [List.getElem?_ofFn] at hx
            simp [hk] at hx
            exact hx.symm
          have q := (hf2 ⟨k, hk⟩).2 j hj
          rw [Addr.add_mid, Addr.add_mid] at q
          rw [hx2]; exact q
    · intro x hx
      obtain ⟨i, rfl⟩ := List.mem_ofFn.1 hx
      exact (hf2 i).1
end Go.Proofs.Ytimnmdeiiahakaa
