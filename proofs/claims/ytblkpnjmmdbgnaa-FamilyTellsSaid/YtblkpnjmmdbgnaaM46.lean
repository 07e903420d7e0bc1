/- Texts that the walks of this seat lean on, put together. -/
import Derived.ProofKit
import Derived.OpenShut
import Derived.ChangeSame
import Derived.Deep.DeepHandedRow
import Derived.LoopTactic
import Derived.Handy
import Derived.Test.YtblkpnjmmdbgnaaTk
import Derived.Test.YtblkpnjmmdbgnaaM13
import Derived.Test.YtblkpnjmmdbgnaaM28
import Derived.Test.YtblkpnjmmdbgnaaM41
namespace Go.Proofs.Ytblkpnjmmdbgnaa
open Go.ChangeShapes Go.WideShapes Go.ChangeAt Go.RowKit
theorem wf_u16 (n : Int) (h : (Lit.int .u16 n).wf = true) : 0 ≤ n ∧ n < (65536 : Nat) := by have := bounds_u16 h; omega
set_option maxRecDepth 100000 in
theorem addr_open {H : Type} {enc : TypeId × Value → H} {W : World} {base fuel : Nat} {spare : Nat → Bool} {held : Bool} {l : List Value} {x : DataW H × List MemPlace}
    (hf : DataW.trod enc Try.prog W base spare held fuel 24 l = some x) : ∃ b bs, l = (cellsA b bs).toList ∧ bs.length = 16 ∧ ∀ n ∈ bs, n < 256 := by
  have hC : Try.prog.cellsOf 24 = 17 := by kernel_rfl
  obtain ⟨y0, y1, n, _, hl, h0, h1⟩ := trod_struct2 Try.underlying24 hf
  have hc4 : Try.prog.cellsOf 4 = 1 := by kernel_rfl
  have hc5 : Try.prog.cellsOf 5 = 1 := by kernel_rfl
  have hc22 : Try.prog.cellsOf 22 = 16 := by kernel_rfl
  rw [hC] at hl
  have h0 : DataW.trod enc Try.prog W base spare held n 4 ((l.drop 0).take (Try.prog.cellsOf 4)) = some y0 := h0
  have h1 : DataW.trod enc Try.prog W base spare held n 22 ((l.drop 1).take (Try.prog.cellsOf 22)) = some y1 := h1
  rw [hc4] at h0
  rw [hc22] at h1
  obtain ⟨b, e0, _⟩ := DataW.trod_bool Try.underlying4 h0
  obtain ⟨xs, m, _, _, hl1, hx, hi⟩ := DataW.trod_array Try.underlying22 h1
  match l, hl with
  | c :: r, hl =>
    simp only [List.length_cons] at hl
    have hl : r.length = 16 := by omega
    have e0 : c = .bool b := by simpa using e0
    subst e0
    have hrr : List.take 16 (List.drop 1 (Value.bool b :: r)) = r := by simp [List.take_of_length_le (Nat.le_of_eq hl)]
    rw [hrr] at hi
    have hn : ∀ i, i < 16 → ∃ z : Nat, r[i]? = some (.int .u8 (z : Int)) ∧ z < 256 := fun i hi16 => by
      have h := hi i hi16
      rw [hc5, Nat.mul_one] at h
      rw [List.getElem?_eq_getElem (by omega)] at h
      obtain ⟨z, ez, _, hw⟩ := DataW.trod_int Try.underlying5 h
      obtain ⟨z0, z1⟩ := wf_u8 z hw
      have e : r[i]? = some (.int .u8 z) := by
        have := congrArg (·[0]?) ez
        simpa [List.getElem?_take, List.getElem?_drop] using this
      refine ⟨z.toNat, ?_, by omega⟩
      rw [e, Int.toNat_of_nonneg z0]
    refine ⟨b, r.map fun x => match x with | .int _ z => z.toNat | _ => 0, ?_, by simpa using hl, ?_⟩
    · unfold cellsA
      simp only
      congr 1
      rw [List.map_map]
      refine (List.map_id r).symm.trans (List.map_congr_left fun x hx => ?_)
      obtain ⟨i, hi', ex⟩ := List.mem_iff_getElem.1 hx
      obtain ⟨z, ez, _⟩ := hn i (by omega)
      rw [List.getElem?_eq_getElem hi', ex] at ez
      obtain rfl := Option.some.inj ez
      simp
    · intro q hq
      obtain ⟨x, hx, rfl⟩ := List.mem_map.1 hq
      obtain ⟨i, hi', ex⟩ := List.mem_iff_getElem.1 hx
      obtain ⟨z, ez, hz⟩ := hn i (by omega)
      rw [List.getElem?_eq_getElem hi', ex] at ez
      obtain rfl := Option.some.inj ez
      simpa using hz
theorem cut_at {α : Type} (l : List α) (a b : Nat) : l.drop a = (l.drop a).take b ++ l.drop (a + b) := by rw [← List.drop_drop, List.take_append_drop]
set_option maxRecDepth 100000 in
theorem open_key {H : Type} {enc : TypeId × Value → H} {W : World} {base b0 : Nat} {spare : Nat → Bool} {held : Bool} {r : Reach} {v : Value} {d : DataW H} {p : List MemPlace}
    (hv : Value.okWide Try.prog W r b0 31 v) (h : DataW.Trod enc Try.prog W base spare held 31 v d p) : ∃ k : Fl, v = .agg k.cs ∧ k.Fit := by
  obtain ⟨cs, rfl, hsz⟩ := okWide_struct Try.underlying31 hv
  have hC : Try.prog.cellsOf 31 = 37 := by kernel_rfl
  have hc5 : Try.prog.cellsOf 5 = 1 := by kernel_rfl
  have hc24 : Try.prog.cellsOf 24 = 17 := by kernel_rfl
  have hc25 : Try.prog.cellsOf 29 = 1 := by kernel_rfl
  obtain ⟨fuel, hf⟩ := h
  obtain ⟨l⟩ := cs
  replace hf : DataW.trod enc Try.prog W base spare held fuel 31 l = some (d, p) := hf
  obtain ⟨xs, n, _, _, hl, hlen, hx⟩ := DataW.trod_struct Try.underlying31 hf
  replace hl : l.length = 37 := hl.trans hC
  match xs, hlen with
  | [y0, y1, y2, y3, y4], _ =>
    have h0 : DataW.trod enc Try.prog W base spare held n 5 ((l.drop 0).take (Try.prog.cellsOf 5)) = some y0 := by simpa using hx 0 _ rfl
    have h1 : DataW.trod enc Try.prog W base spare held n 24 ((l.drop 1).take (Try.prog.cellsOf 24)) = some y1 := by simpa using hx 1 _ rfl
    have h2 : DataW.trod enc Try.prog W base spare held n 24 ((l.drop 18).take (Try.prog.cellsOf 24)) = some y2 := by simpa using hx 2 _ rfl
    have h3 : DataW.trod enc Try.prog W base spare held n 29 ((l.drop 35).take (Try.prog.cellsOf 29)) = some y3 := by simpa using hx 3 _ rfl
    have h4 : DataW.trod enc Try.prog W base spare held n 29 ((l.drop 36).take (Try.prog.cellsOf 29)) = some y4 := by simpa using hx 4 _ rfl
    rw [hc5] at h0
    rw [hc24] at h1 h2
    rw [hc25] at h3 h4
    obtain ⟨z0, e0, _, w0⟩ := DataW.trod_int Try.underlying5 h0
    obtain ⟨z3, e3, _, w3⟩ := DataW.trod_int Try.underlying29 h3
    obtain ⟨z4, e4, _, w4⟩ := DataW.trod_int Try.underlying29 h4
    obtain ⟨sv, S, e1, lS, bS⟩ := addr_open h1
    obtain ⟨dv, D, e2, lD, bD⟩ := addr_open h2
    obtain ⟨p0, p1⟩ := wf_u8 z0 w0
    obtain ⟨s0, s1⟩ := wf_u16 z3 w3
    obtain ⟨d0, d1⟩ := wf_u16 z4 w4
    refine ⟨⟨z0.toNat, sv, S, dv, D, z3.toNat, z4.toNat⟩, ?_, ⟨by show z0.toNat < 256; omega, lS, lD, bS, bD, by show z3.toNat < 65536; omega, by show z4.toNat < 65536; omega⟩⟩
    unfold Fl.cs kcells
    congr 2
    have q := cut_at l 0 1
    rw [cut_at l (0 + 1) 17, cut_at l (0 + 1 + 17) 17, cut_at l (0 + 1 + 17 + 17) 1, cut_at l (0 + 1 + 17 + 17 + 1) 1, List.drop_eq_nil_of_le (show l.length ≤ 0 + 1 + 17 + 17 + 1 + 1 by omega)] at q
    rw [List.drop_zero] at q e0
    rw [q]
    simp only [Nat.zero_add, Nat.reduceAdd]
    rw [e0, e1, e2, e3, e4, Int.toNat_of_nonneg p0, Int.toNat_of_nonneg s0, Int.toNat_of_nonneg d0]
    simp
theorem wf_u32c (n : Int) (h : (Lit.int .u32 n).wf = true) : 0 ≤ n ∧ n < (4294967296 : Nat) := by have := bounds_u32 h; omega
set_option maxRecDepth 100000 in
theorem open_cfg {H : Type} {enc : TypeId × Value → H} {W : World} {base b0 : Nat} {spare : Nat → Bool} {held : Bool} {r : Reach} {v : Value} {d : DataW H} {p : List MemPlace}
    (hv : Value.okWide Try.prog W r b0 27 v) (h : DataW.Trod enc Try.prog W base spare held 27 v d p) : ∃ c : Cf, v = .agg c.cs ∧ c.Fit := by
  obtain ⟨cs, rfl, hsz⟩ := okWide_struct Try.underlying27 hv
  have hC : Try.prog.cellsOf 27 = 48 := by kernel_rfl
  have hc3 : Try.prog.cellsOf 3 = 1 := by kernel_rfl
  have hc4 : Try.prog.cellsOf 4 = 1 := by kernel_rfl
  have hc24 : Try.prog.cellsOf 24 = 17 := by kernel_rfl
  have hc25 : Try.prog.cellsOf 25 = 1 := by kernel_rfl
  obtain ⟨fuel, hf⟩ := h
  obtain ⟨l⟩ := cs
  replace hf : DataW.trod enc Try.prog W base spare held fuel 27 l = some (d, p) := hf
  obtain ⟨xs, n, _, _, hl, hlen, hx⟩ := DataW.trod_struct Try.underlying27 hf
  replace hl : l.length = 48 := hl.trans hC
  match xs, hlen with
  | [y0, y1, y2, y3, y4, y5, y6, y7, y8, y9, y10, y11, y12, y13, y14, y15], _ =>
    have h0 : DataW.trod enc Try.prog W base spare held n 3 ((l.drop 0).take (Try.prog.cellsOf 3)) = some y0 := by simpa using hx 0 _ rfl
    have h1 : DataW.trod enc Try.prog W base spare held n 3 ((l.drop 1).take (Try.prog.cellsOf 3)) = some y1 := by simpa using hx 1 _ rfl
    have h2 : DataW.trod enc Try.prog W base spare held n 3 ((l.drop 2).take (Try.prog.cellsOf 3)) = some y2 := by simpa using hx 2 _ rfl
    have h3 : DataW.trod enc Try.prog W base spare held n 3 ((l.drop 3).take (Try.prog.cellsOf 3)) = some y3 := by simpa using hx 3 _ rfl
    have h4 : DataW.trod enc Try.prog W base spare held n 3 ((l.drop 4).take (Try.prog.cellsOf 3)) = some y4 := by simpa using hx 4 _ rfl
    have h5 : DataW.trod enc Try.prog W base spare held n 3 ((l.drop 5).take (Try.prog.cellsOf 3)) = some y5 := by simpa using hx 5 _ rfl
    have h6 : DataW.trod enc Try.prog W base spare held n 3 ((l.drop 6).take (Try.prog.cellsOf 3)) = some y6 := by simpa using hx 6 _ rfl
    have h7 : DataW.trod enc Try.prog W base spare held n 3 ((l.drop 7).take (Try.prog.cellsOf 3)) = some y7 := by simpa using hx 7 _ rfl
    have h8 : DataW.trod enc Try.prog W base spare held n 3 ((l.drop 8).take (Try.prog.cellsOf 3)) = some y8 := by simpa using hx 8 _ rfl
    have h9 : DataW.trod enc Try.prog W base spare held n 3 ((l.drop 9).take (Try.prog.cellsOf 3)) = some y9 := by simpa using hx 9 _ rfl
    have h10 : DataW.trod enc Try.prog W base spare held n 3 ((l.drop 10).take (Try.prog.cellsOf 3)) = some y10 := by simpa using hx 10 _ rfl
    have h11 : DataW.trod enc Try.prog W base spare held n 3 ((l.drop 11).take (Try.prog.cellsOf 3)) = some y11 := by simpa using hx 11 _ rfl
    have h12 : DataW.trod enc Try.prog W base spare held n 4 ((l.drop 12).take (Try.prog.cellsOf 4)) = some y12 := by simpa using hx 12 _ rfl
    have h13 : DataW.trod enc Try.prog W base spare held n 24 ((l.drop 13).take (Try.prog.cellsOf 24)) = some y13 := by simpa using hx 13 _ rfl
    have h14 : DataW.trod enc Try.prog W base spare held n 24 ((l.drop 30).take (Try.prog.cellsOf 24)) = some y14 := by simpa using hx 14 _ rfl
    have h15 : DataW.trod enc Try.prog W base spare held n 25 ((l.drop 47).take (Try.prog.cellsOf 25)) = some y15 := by simpa using hx 15 _ rfl
    clear hx hf
    rw [hc3] at h0
    rw [hc3] at h1
    rw [hc3] at h2
    rw [hc3] at h3
    rw [hc3] at h4
    rw [hc3] at h5
    rw [hc3] at h6
    rw [hc3] at h7
    rw [hc3] at h8
    rw [hc3] at h9
    rw [hc3] at h10
    rw [hc3] at h11
    rw [hc4] at h12
    rw [hc24] at h13
    rw [hc24] at h14
    rw [hc25] at h15
    obtain ⟨z0, e0, _, w0⟩ := DataW.trod_int Try.underlying3 h0
    obtain ⟨z1, e1, _, w1⟩ := DataW.trod_int Try.underlying3 h1
    obtain ⟨z2, e2, _, w2⟩ := DataW.trod_int Try.underlying3 h2
    obtain ⟨z3, e3, _, w3⟩ := DataW.trod_int Try.underlying3 h3
    obtain ⟨z4, e4, _, w4⟩ := DataW.trod_int Try.underlying3 h4
    obtain ⟨z5, e5, _, w5⟩ := DataW.trod_int Try.underlying3 h5
    obtain ⟨z6, e6, _, w6⟩ := DataW.trod_int Try.underlying3 h6
    obtain ⟨z7, e7, _, w7⟩ := DataW.trod_int Try.underlying3 h7
    obtain ⟨z8, e8, _, w8⟩ := DataW.trod_int Try.underlying3 h8
    obtain ⟨z9, e9, _, w9⟩ := DataW.trod_int Try.underlying3 h9
    obtain ⟨z10, e10, _, w10⟩ := DataW.trod_int Try.underlying3 h10
    obtain ⟨z11, e11, _, w11⟩ := DataW.trod_int Try.underlying3 h11
    obtain ⟨en, e12, _⟩ := DataW.trod_bool Try.underlying4 h12
    obtain ⟨ov, O, e13, lO, bO⟩ := addr_open h13
    obtain ⟨xv, X, e14, lX, bX⟩ := addr_open h14
    obtain ⟨z15, e15, _, w15⟩ := DataW.trod_int Try.underlying25 h15
    obtain ⟨p0, p1⟩ := wf_u32c z15 w15
    refine ⟨⟨z0, z1, z2, z3, z4, z5, z6, z7, z8, z9, z10, z11, en, ov, O, xv, X, z15.toNat⟩, ?_, ⟨lO, lX, bO, bX, by show z15.toNat < 4294967296; omega⟩⟩
    unfold Cf.cs ccells
    congr 2
    have q : l = ((l.drop 0).take 1 ++ ((l.drop 1).take 1 ++ ((l.drop 2).take 1 ++ ((l.drop 3).take 1 ++ ((l.drop 4).take 1 ++ ((l.drop 5).take 1 ++ ((l.drop 6).take 1 ++ ((l.drop 7).take 1 ++ ((l.drop 8).take 1 ++ ((l.drop 9).take 1 ++ ((l.drop 10).take 1 ++ ((l.drop 11).take 1 ++ ((l.drop 12).take 1 ++ ((l.drop 13).take 17 ++ ((l.drop 30).take 17 ++ ((l.drop 47).take 1 ++ [])))))))))))))))) := by
      refine (List.drop_zero (l := l)).symm.trans ?_
      refine (cut_at l 0 1).trans (congrArg (fun x => (l.drop 0).take 1 ++ x) ?_)
      refine (cut_at l 1 1).trans (congrArg (fun x => (l.drop 1).take 1 ++ x) ?_)
      refine (cut_at l 2 1).trans (congrArg (fun x => (l.drop 2).take 1 ++ x) ?_)
      refine (cut_at l 3 1).trans (congrArg (fun x => (l.drop 3).take 1 ++ x) ?_)
      refine (cut_at l 4 1).trans (congrArg (fun x => (l.drop 4).take 1 ++ x) ?_)
      refine (cut_at l 5 1).trans (congrArg (fun x => (l.drop 5).take 1 ++ x) ?_)
      refine (cut_at l 6 1).trans (congrArg (fun x => (l.drop 6).take 1 ++ x) ?_)
      refine (cut_at l 7 1).trans (congrArg (fun x => (l.drop 7).take 1 ++ x) ?_)
      refine (cut_at l 8 1).trans (congrArg (fun x => (l.drop 8).take 1 ++ x) ?_)
      refine (cut_at l 9 1).trans (congrArg (fun x => (l.drop 9).take 1 ++ x) ?_)
      refine (cut_at l 10 1).trans (congrArg (fun x => (l.drop 10).take 1 ++ x) ?_)
      refine (cut_at l 11 1).trans (congrArg (fun x => (l.drop 11).take 1 ++ x) ?_)
      refine (cut_at l 12 1).trans (congrArg (fun x => (l.drop 12).take 1 ++ x) ?_)
      refine (cut_at l 13 17).trans (congrArg (fun x => (l.drop 13).take 17 ++ x) ?_)
      refine (cut_at l 30 17).trans (congrArg (fun x => (l.drop 30).take 17 ++ x) ?_)
      refine (cut_at l 47 1).trans (congrArg (fun x => (l.drop 47).take 1 ++ x) ?_)
      exact List.drop_eq_nil_of_le (by omega)
    refine q.trans ?_
    rw [e0, e1, e2, e3, e4, e5, e6, e7, e8, e9, e10, e11, e12, e13, e14, e15, Int.toNat_of_nonneg p0]
    simp
end Go.Proofs.Ytblkpnjmmdbgnaa
namespace Go.Proofs.Ytblkpnjmmdbgnaa
open Go.RowKit
theorem row_rdI {w : World} {a : Option Addr} {len cap : Nat} {zs : List Int}
    (h : (a = none ∧ len = 0 ∧ cap = 0 ∧ zs = []) ∨ ∃ x, a = some x ∧ len ≤ cap ∧ cap ≤ maxLen ∧ zs.length = cap ∧ (∀ i, i < zs.length → w.cell? (x.add i) = some (.int .i64 (zs.getD i 0))) ∧ ∀ n ∈ zs, (Lit.int .i64 n).wf = true) :
    Rd w (.slice a len cap) (ivs (zs.take len)) := by
  rcases h with ⟨rfl, rfl, rfl, rfl⟩ | ⟨x, rfl, hl, hm, hz, hc, -⟩
  · exact ⟨none, 0, rfl, by simp [ivs], by simp [maxLen], .inl rfl⟩
  · have hlen : (ivs (zs.take len)).length = len := by simp [ivs]; omega
    refine ⟨some x, cap, by rw [hlen], by rw [hlen]; exact hl, hm, ?_⟩
    by_cases h0 : len = 0
    · exact .inl (by subst h0; simp [ivs])
    · obtain ⟨b, off, spot⟩ := x
      have h00 := hc 0 (by omega)
      have hspot : spot = none := by simpa [Addr.add] using World.cell?_spot h00
      subst hspot
      refine .inr ⟨b, off, rfl, ?_, fun i hi => ?_⟩
      · have := World.block_lt_of_cell? w _ h00
        simpa [Addr.add] using this
      · rw [hlen] at hi
        have h1 := hc i (by omega)
        have hadd : (⟨b, off, none⟩ : Addr).add i = ⟨b, off + i, none⟩ := by unfold Addr.add; split <;> simp_all
        rw [hadd] at h1
        rw [h1]
        simp [ivs, List.getD_eq_getElem?_getD, hi, List.getElem?_eq_getElem (show i < zs.length by omega)]
end Go.Proofs.Ytblkpnjmmdbgnaa
