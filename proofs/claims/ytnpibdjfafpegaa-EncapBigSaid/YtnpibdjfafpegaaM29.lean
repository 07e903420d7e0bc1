/- Texts that the walks of this seat lean on, put together. -/
import Derived.Test.YtnpibdjfafpegaaTk
import Derived.Test.YtnpibdjfafpegaaM16
import Derived.Test.YtnpibdjfafpegaaM23
import Derived.Test.YtnpibdjfafpegaaM28
namespace Go.Proofs.Ytnpibdjfafpegaa
open Go.RowKit
open Go.RowKit
theorem getDl (A B : List Nat) (i : Nat) (h : i < A.length) : (A ++ B).getD i 0 = A.getD i 0 := getDa A B i h
theorem getDr (A B : List Nat) (i : Nat) (h : A.length ≤ i) : (A ++ B).getD i 0 = B.getD (i - A.length) 0 := by
  rw [List.getD_eq_getElem?_getD, List.getElem?_append_right h, ← List.getD_eq_getElem?_getD]
theorem getD_dr (A : List Nat) (n i : Nat) : (A.drop n).getD i 0 = A.getD (n + i) 0 := by
  rw [List.getD_eq_getElem?_getD, List.getElem?_drop, ← List.getD_eq_getElem?_getD]
def nN (zs : List Nat) : Nat := (net zs).1
def nS (zs : List Nat) : Nat := (net zs).1 + fS (sixF zs) (pkt zs)
def nE (zs : List Nat) : Nat := (net zs).1 + fL (sixF zs) (pkt zs)
structure Frame9 (zs : List Nat) : Prop where
  net0 : (net zs).2.2 = 0
  n0 : (net zs).1 = 14 ∨ (net zs).1 = 18
  nl : (net zs).1 ≤ zs.length
  hr : fhr (sixF zs) (pkt zs) = 0
  hd0 : Head (sixF zs) (pkt zs)
  pl : (pkt zs).length = zs.length - (net zs).1
  fs0 : fs (fP (sixF zs) (pkt zs)) (sgm zs) = 0
  sl : (sgm zs).length = fL (sixF zs) (pkt zs) - fS (sixF zs) (pkt zs)
  eL : nE zs ≤ zs.length
  sE : nS zs ≤ nE zs
  cut : zs = zs.take (nN zs) ++ ((pkt zs).take (fS (sixF zs) (pkt zs)) ++ (sgm zs ++ zs.drop (nE zs)))
theorem frame9 (zs : List Nat) (h : rr zs = 0) : Frame9 zs := by
  obtain ⟨h1, h2, h3⟩ := rr_yes zs h
  obtain ⟨hn, hnl, -⟩ := net_ok zs h1
  have hH := fhd_yes _ _ h2
  have q1 := hH.mid
  have q2 := hH.high
  have pl : (pkt zs).length = zs.length - (net zs).1 := by simp [pkt]
  have hE : nE zs ≤ zs.length := by unfold nE; omega
  refine ⟨h1, hn, hnl, h2, hH, pl, h3, ?_, hE, by unfold nS nE; omega, ?_⟩
  · unfold sgm
    rw [List.length_take, List.length_drop]; omega
  · have e1 : zs = zs.take (nN zs) ++ pkt zs := (List.take_append_drop (nN zs) zs).symm
    have e2 : pkt zs = (pkt zs).take (fS (sixF zs) (pkt zs)) ++ (pkt zs).drop (fS (sixF zs) (pkt zs)) := (List.take_append_drop _ _).symm
    have e3 : (pkt zs).drop (fS (sixF zs) (pkt zs)) = sgm zs ++ zs.drop (nE zs) := by
      have e4 : (pkt zs).drop (fS (sixF zs) (pkt zs)) = zs.drop (nS zs) := by
        show (zs.drop (net zs).1).drop (fS (sixF zs) (pkt zs)) = zs.drop ((net zs).1 + fS (sixF zs) (pkt zs))
        rw [List.drop_drop]
      have e5 : sgm zs = (zs.drop (nS zs)).take (fL (sixF zs) (pkt zs) - fS (sixF zs) (pkt zs)) := rfl
      have e6 : zs.drop (nE zs) = (zs.drop (nS zs)).drop (fL (sixF zs) (pkt zs) - fS (sixF zs) (pkt zs)) := by
        rw [List.drop_drop]; congr 1; unfold nS nE; omega
      rw [e4, e5, e6, List.take_append_drop]
    rw [← e3, ← e2, ← e1]
open Go.RowKit
structure View9 (zs : List Nat) (A : Array Value) : Prop where
  c0 : A[0]? = some (.bool (sixF zs))
  c1 : A[1]? = some (.int .i64 (nN zs : Int))
  c3 : A[3]? = some (.int .i64 (nE zs : Int))
theorem view9 (zs : List Nat) (h : rr zs = 0) : View9 zs (vw zs) := by
  have hvw : vw zs = vcells (sixF zs) (nN zs) (nS zs) (nE zs) (kcells (fP (sixF zs) (pkt zs)) (fA (sixF zs) (pkt zs)) (fB (sixF zs) (pkt zs)) (u2 (sgm zs) 0) (u2 (sgm zs) 2)) (fl (fP (sixF zs) (pkt zs)) (sgm zs)) := by unfold vw keyF; rw [if_pos h]; rfl
  obtain ⟨q0, q1, q2, q3, q4⟩ := vget (sixF zs) (nN zs) (nS zs) (nE zs) (fl (fP (sixF zs) (pkt zs)) (sgm zs)) (fP (sixF zs) (pkt zs)) (u2 (sgm zs) 0) (u2 (sgm zs) 2) (fA (sixF zs) (pkt zs)) (fB (sixF zs) (pkt zs))
  rw [hvw]
  exact ⟨q0, q1, q3⟩
end Go.Proofs.Ytnpibdjfafpegaa
