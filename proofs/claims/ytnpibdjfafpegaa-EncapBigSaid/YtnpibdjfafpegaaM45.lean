/- Texts that the walks of this seat lean on, put together. -/
import Derived.Test.YtnpibdjfafpegaaTk
import Derived.Test.YtnpibdjfafpegaaM43
namespace Go.Proofs.Ytnpibdjfafpegaa
open Go.RowKit
def bigE (v : Bool) : List Nat := [0, 0, 0, 0, 0, 0, 0, 0, 0, 0, 0, 0] ++ (if v then [134, 221] else [8, 0])
def bigS (m : Nat) : List Nat := [0, 0, 0, 0, 0, 8] ++ List.replicate (m - 6) 0
def bigF (v : Bool) (m : Nat) : List Nat := bigE v ++ (headB v (sV 3) dV 17 m ++ bigS m)
theorem bigS_len (m : Nat) (h : 8 ≤ m) : (bigS m).length = m := by unfold bigS; rw [List.length_append, List.length_replicate]; show 6 + (m - 6) = m; omega
theorem bigE_len (v : Bool) : (bigE v).length = 14 := by cases v <;> rfl
theorem big_len (v : Bool) (m : Nat) (h : 8 ≤ m) : (bigF v m).length = 14 + hH v + m := by
  unfold bigF
  rw [List.length_append, List.length_append, bigE_len, bigS_len m h, headB_len v (sV 3) dV 17 m (sV_len 3) dV_len]
  unfold hH; omega
theorem big_lt (v : Bool) (m : Nat) : ∀ c ∈ bigF v m, c < 256 := by
  intro c hc
  unfold bigF bigE bigS at hc
  simp only [List.mem_append] at hc
  rcases hc with (h | h) | h | h | h
  · simp at h; omega
  · cases v <;> simp at h <;> omega
  · exact headB_lt v (sV 3) dV 17 m (sV_lt 3) dV_lt (by omega) c h
  · simp at h; omega
  · have := List.eq_of_mem_replicate h; omega
theorem bigE_net (v : Bool) (X : List Nat) : net (bigE v ++ X) = (14, kN v, 0) := by
  have h12 : u2 (bigE v ++ X) 12 = kN v := by unfold u2 bigE kN; cases v <;> simp
  have hl : ¬ (bigE v ++ X).length < 14 := by rw [List.length_append, bigE_len]; omega
  rw [net_bare _ hl (by rw [h12]; cases v <;> decide), h12, netK_kN]
structure Big (v : Bool) (m : Nat) (F : List Nat) : Prop where
  rr : rr F = 0
  n : nN F = 14
  e : nE F = 14 + hH v + m
theorem head_of (v : Bool) (S D SG : List Nat) (p m : Nat) (hp : p = 6 ∨ p = 17) (hS : S.length = 16) (hD : D.length = 16) (hl : SG.length = m) (hm : m ≤ 65515) :
    fhr v (headB v S D p m ++ SG) = 0 ∧ fS v (headB v S D p m ++ SG) = hH v ∧ fL v (headB v S D p m ++ SG) = hH v + m ∧ fP v (headB v S D p m ++ SG) = p := by
  cases v with
  | true =>
    refine ⟨mk6_f S D SG p m hS hD (by omega) hp (by omega), rfl, ?_, ?_⟩
    · show 40 + u2 (mk6 S D p m ++ SG) 4 = 40 + m
      rw [mk6_u2 _ _ _ _ _ (by omega)]
    · show (mk6 S D p m ++ SG).getD 6 0 = p
      rw [mk6_cons]; rfl
  | false =>
    obtain ⟨q1, q2, q3, q4, q5, q6, q7, q8⟩ := mk_read (S.take 4) (D.take 4) SG p m (by simp [hS]) (by simp [hD]) hl hm hp
    exact ⟨q1, q4, q5, q6⟩
theorem big (v : Bool) (m : Nat) (h : 8 ≤ m) (hm : m ≤ 65515) : Big v m (bigF v m) := by
  have hsl := bigS_len m h
  have hnet := bigE_net v (headB v (sV 3) dV 17 m ++ bigS m)
  have hpk : pkt (bigF v m) = headB v (sV 3) dV 17 m ++ bigS m := by unfold pkt bigF; rw [hnet]; exact drop_app _ _ _ (bigE_len v)
  have hsix : sixF (bigF v m) = v := by unfold sixF bigF; rw [hnet]; cases v <;> rfl
  have hl : (headB v (sV 3) dV 17 m).length = hH v := headB_len v _ _ 17 m (sV_len 3) dV_len
  have hk := head_of v (sV 3) dV (bigS m) 17 m (.inr rfl) (sV_len 3) dV_len hsl hm
  obtain ⟨k1, k2, k3, k4⟩ := hk
  have hsg : sgm (bigF v m) = bigS m := by
    have hn : (net (bigF v m)).1 = 14 := by unfold bigF; rw [hnet]
    unfold sgm
    rw [hsix, hpk, k2, k3, hn]
    have : (bigF v m).drop (14 + hH v) = bigS m := by
      unfold bigF
      rw [← List.append_assoc]
      exact drop_app _ _ _ (by rw [List.length_append, bigE_len, hl])
    rw [this, Nat.add_sub_cancel_left]
    exact List.take_of_length_le (by omega)
  have hfs : fs 17 (bigS m) = 0 := by
    have h4 : u2 (bigS m) 4 = 8 := by unfold u2 bigS; simp
    exact fs_udp _ (by omega) (by omega) (by omega)
  have hrr : Go.Proofs.Ytnpibdjfafpegaa.rr (bigF v m) = 0 := by
    unfold Go.Proofs.Ytnpibdjfafpegaa.rr
    rw [hsix, hpk, k1, k4, hsg, hfs]
    have : (net (bigF v m)).2.2 = 0 := by unfold bigF; rw [hnet]
    rw [this]; rfl
  have hn : nN (bigF v m) = 14 := by unfold nN bigF; rw [hnet]
  refine ⟨hrr, hn, ?_⟩
  have : nE (bigF v m) = nN (bigF v m) + fL (sixF (bigF v m)) (pkt (bigF v m)) := rfl
  rw [this, hsix, hpk, k3, hn]; omega
theorem big_s (v d : Bool) (m : Nat) (h : 8 ≤ m) (hm : m ≤ 65515) : inS (bigF v m) d = 14 + hH v + m + hH d := by
  have hB := big v m h hm
  unfold inS
  rw [hB.n, hB.e]; omega
theorem rep_add (a b : Nat) : List.replicate (a + b) 0 = List.replicate a 0 ++ List.replicate b 0 := (List.replicate_append_replicate).symm
theorem big_made (v : Bool) (m n : Nat) (h : 8 ≤ m) (hn : n = 14 + hH v + m) (R : List Nat) (hR : R = if v then ((((List.replicate n 0).set 12 8).set 13 0).set 12 134).set 13 221 else ((List.replicate n 0).set 12 8).set 13 0) :
    ((ov R (headB v (sV 3) dV 17 m) 14).set (14 + hH v + 4) 0).set (14 + hH v + 5) 8 = bigF v m := by
  have hl : (headB v (sV 3) dV 17 m).length = hH v := headB_len v _ _ 17 m (sV_len 3) dV_len
  have e1 : List.replicate n 0 = List.replicate 14 0 ++ (List.replicate (hH v) 0 ++ List.replicate m 0) := by rw [hn, Nat.add_assoc, rep_add, rep_add]
  have e2 : R = bigE v ++ (List.replicate (hH v) 0 ++ List.replicate m 0) := by
    rw [hR, e1]
    generalize List.replicate (hH v) 0 ++ List.replicate m 0 = X
    cases v
    · rw [if_neg (by decide)]; rfl
    · rw [if_pos rfl]; rfl
  have e3 : ov R (headB v (sV 3) dV 17 m) 14 = bigE v ++ (headB v (sV 3) dV 17 m ++ List.replicate m 0) := by
    have d1 : (bigE v ++ (List.replicate (hH v) 0 ++ List.replicate m 0)).drop (14 + hH v) = List.replicate m 0 := by
      rw [← List.append_assoc]
      exact drop_app _ _ _ (by rw [List.length_append, bigE_len, List.length_replicate])
    unfold ov
    rw [e2, take_app _ _ _ (bigE_len v), hl, d1]
  have e4 : List.replicate m 0 = [0, 0, 0, 0, 0, 0] ++ List.replicate (m - 6) 0 := by
    have : m = 6 + (m - 6) := by omega
    rw [this, rep_add, Nat.add_sub_cancel_left]; rfl
  rw [e3]
  unfold bigF bigS
  generalize headB v (sV 3) dV 17 m = H at *
  have a1 : 14 + hH v + 4 - (bigE v).length = hH v + 4 := by rw [bigE_len]; omega
  have a2 : 14 + hH v + 5 - (bigE v).length = hH v + 5 := by rw [bigE_len]; omega
  rw [set_right _ _ _ _ (by rw [bigE_len]; omega), a1, set_right H _ _ _ (by omega), hl, Nat.add_sub_cancel_left, set_right _ _ _ _ (by rw [bigE_len]; omega), a2, set_right H _ _ _ (by omega), hl, Nat.add_sub_cancel_left, e4]
  rfl
end Go.Proofs.Ytnpibdjfafpegaa
