/- Texts that the walks of this seat lean on, put together. -/
import Derived.Test.YtnpibdjfafpegaaTk
import Derived.Test.YtnpibdjfafpegaaM21
namespace Go.Proofs.Ytnpibdjfafpegaa
open Go.RowKit
def pv (six : Bool) (at0 : Nat) (T : List Nat) : Array Value :=
  if fhr six T = 0 then vcells six at0 (at0 + fS six T) (at0 + fL six T) (kcells (fP six T) (fA six T) (fB six T) 0 0) 0 else v0
theorem pv_all (six : Bool) (at0 : Nat) (T : List Nat) : (pv six at0 T).all (·.oneCell') = true := by
  unfold pv; split
  · exact vcells_all _ _ _ _ _ _ (kcells_all _ _ _ _ _ (fA_all _ _) (fB_all _ _))
  · exact v0_all
theorem pv_size (six : Bool) (at0 : Nat) (T : List Nat) : (pv six at0 T).size = 42 := by
  unfold pv; split
  · rename_i h
    have := fhd_yes six T h
    exact vcells_size _ _ _ _ _ _ (kcells_size _ _ _ _ _ this.sA this.sB)
  · exact v0_size
theorem vw_all (zs : List Nat) : (vw zs).all (·.oneCell') = true := by
  unfold vw keyF; split
  · exact vcells_all _ _ _ _ _ _ (kcells_all _ _ _ _ _ (fA_all _ _) (fB_all _ _))
  · exact v0_all
theorem rr_yes (zs : List Nat) (h : rr zs = 0) : (net zs).2.2 = 0 ∧ fhr (sixF zs) (pkt zs) = 0 ∧ fs (fP (sixF zs) (pkt zs)) (sgm zs) = 0 := by
  unfold rr at h
  split at h
  · rename_i h1; exact absurd h h1
  · rename_i h1
    split at h
    · rename_i h2; exact absurd h h2
    · rename_i h2; exact ⟨Decidable.not_not.1 h1, Decidable.not_not.1 h2, h⟩
theorem vw_size (zs : List Nat) : (vw zs).size = 42 := by
  unfold vw keyF; split
  · rename_i h
    have := fhd_yes _ _ (rr_yes zs h).2.1
    exact vcells_size _ _ _ _ _ _ (kcells_size _ _ _ _ _ this.sA this.sB)
  · exact v0_size
def sgT (six : Bool) (at0 : Nat) (zs : List Nat) : List Nat := (zs.drop (at0 + fS six (zs.drop at0))).take (fL six (zs.drop at0) - fS six (zs.drop at0))
def sv (six : Bool) (at0 : Nat) (zs : List Nat) : Array Value :=
  if fs (fP six (zs.drop at0)) (sgT six at0 zs) = 0 then vcells six at0 (at0 + fS six (zs.drop at0)) (at0 + fL six (zs.drop at0)) (kcells (fP six (zs.drop at0)) (fA six (zs.drop at0)) (fB six (zs.drop at0)) (u2 (sgT six at0 zs) 0) (u2 (sgT six at0 zs) 2)) (fl (fP six (zs.drop at0)) (sgT six at0 zs))
  else v0
theorem sv_eq (zs : List Nat) (h : (net zs).2.2 = 0) (h2 : fhr (sixF zs) (pkt zs) = 0) : rr zs = fs (fP (sixF zs) (pkt zs)) (sgT (sixF zs) (net zs).1 zs) ∧ vw zs = sv (sixF zs) (net zs).1 zs := by
  have e : rr zs = fs (fP (sixF zs) (pkt zs)) (sgm zs) := by unfold rr; rw [if_neg (fun x => x h), if_neg (fun x => x h2)]
  refine ⟨e, ?_⟩
  unfold vw; rw [e]; rfl
theorem rr_net (zs : List Nat) (h : (net zs).2.2 ≠ 0) : rr zs = (net zs).2.2 ∧ vw zs = v0 := by
  have e : rr zs = (net zs).2.2 := by unfold rr; rw [if_pos h]
  exact ⟨e, by unfold vw; rw [e, if_neg h]⟩
theorem rr_pkt (zs : List Nat) (h : (net zs).2.2 = 0) (h2 : fhr (sixF zs) (pkt zs) ≠ 0) : rr zs = fhr (sixF zs) (pkt zs) ∧ vw zs = v0 := by
  have e : rr zs = fhr (sixF zs) (pkt zs) := by unfold rr; rw [if_neg (fun x => x h), if_pos h2]
  exact ⟨e, by unfold vw; rw [e, if_neg h2]⟩
theorem sv_all (six : Bool) (at0 : Nat) (zs : List Nat) : (sv six at0 zs).all (·.oneCell') = true := by
  unfold sv; split
  · exact vcells_all _ _ _ _ _ _ (kcells_all _ _ _ _ _ (fA_all _ _) (fB_all _ _))
  · exact v0_all
theorem sv_size (six : Bool) (at0 : Nat) (zs : List Nat) (h : fhr six (zs.drop at0) = 0) : (sv six at0 zs).size = 42 := by
  unfold sv; split
  · have := fhd_yes six _ h
    exact vcells_size _ _ _ _ _ _ (kcells_size _ _ _ _ _ this.sA this.sB)
  · exact v0_size
end Go.Proofs.Ytnpibdjfafpegaa
