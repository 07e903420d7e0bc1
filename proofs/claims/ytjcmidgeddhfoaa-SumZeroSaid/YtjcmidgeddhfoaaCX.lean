/- Plain facts on rows of which a part is another one. -/
import Derived.Test.YtjcmidgeddhfoaaCV
import Derived.Test.YtjcmidgeddhfoaaAp
import Derived.Lib.QuietBelow
namespace Go.Proofs.Ytjcmidgeddhfoaa
open Go.RowKit Go.Sort

/-- B, where from place k on so many are T's. -/
def mix (B T : List Nat) (k j : Nat) : List Nat := B.take k ++ (T.take j ++ B.drop (k + j))
theorem mix_length (B T : List Nat) (k j : Nat) (h : k + j ≤ B.length) (hj : j ≤ T.length) : (mix B T k j).length = B.length := by
  simp [mix]; omega
theorem mix_zero (B T : List Nat) (k : Nat) : mix B T k 0 = B := by simp [mix]
theorem mix_step (B T : List Nat) (k j : Nat) (h : k + j < B.length) (hj : j < T.length) : (mix B T k j).set (k + j) (T.getD j 0) = mix B T k (j + 1) := by
  have hk : (B.take k).length = k := by simp; omega
  have ht : (T.take j).length = j := by simp; omega
  unfold mix
  rw [List.set_append_right _ _ (by omega), List.set_append_right _ _ (by omega), hk, ht, show k + j - k - j = 0 from by omega,
    List.drop_eq_getElem_cons h, List.set_cons_zero]
  simp [List.getD_eq_getElem?_getD, List.getElem?_eq_getElem hj, Nat.add_assoc]
  rw [List.take_succ_eq_append_getElem hj, List.append_assoc, List.singleton_append]
theorem mix_full (B T : List Nat) (k : Nat) : mix B T k T.length = B.take k ++ (T ++ B.drop (k + T.length)) := by simp [mix]
theorem mix_lt (B T : List Nat) (k j : Nat) (hB : ∀ c ∈ B, c < 256) (hT : ∀ c ∈ T, c < 256) : ∀ c ∈ mix B T k j, c < 256 := by
  intro c hc
  unfold mix at hc
  rcases List.mem_append.1 hc with h | h
  · exact hB c (List.mem_of_mem_take h)
  · rcases List.mem_append.1 h with h | h
    · exact hT c (List.mem_of_mem_take h)
    · exact hB c (List.mem_of_mem_drop h)
theorem changes_math (B T : List Nat) (k : Nat) (hk : k % 2 = 0) (hm : T.length % 2 = 0) (h : k + T.length ≤ B.length) (hB : ∀ c ∈ B, c < 256) :
    chA (ck B) ((B.drop k).take T.length) T % 65535 = ck (mix B T k T.length) % 65535 := by
  have hFl : ((B.drop k).take T.length).length = T.length := by simp; omega
  have hF : ∀ c ∈ (B.drop k).take T.length, c < 256 := fun c hc => hB c (List.mem_of_mem_drop (List.mem_of_mem_take hc))
  have e : chA (ck B) ((B.drop k).take T.length) T = chg (ck B) ((B.drop k).take T.length) T (T.length / 2) := chA_yes _ _ _ _ (by omega) (by omega)
  have h1 := chg_mod (ck B) ((B.drop k).take T.length) T (ck_le B) hF (T.length / 2) (by omega) (by omega)
  rw [List.take_of_length_le (l := T) (by omega), List.take_of_length_le (l := (B.drop k).take T.length) (by omega)] at h1
  have h2 := ck_mod B
  have h3 := ck_mod (mix B T k T.length)
  rw [mix_full, wsp_append, wsp_append] at h3
  have hk2 : (B.take k).length = k := by simp; omega
  rw [hk2, wsp_eq T (0 + k) 0 (by omega), wsp_eq (B.drop (k + T.length)) (0 + k + T.length) 0 (by omega)] at h3
  have hBs : B = B.take k ++ ((B.drop k).take T.length ++ B.drop (k + T.length)) := by
    rw [← List.drop_drop, List.take_append_drop, List.take_append_drop]
  have h4 : wsp 0 B = wsp 0 (B.take k) + (wsp 0 ((B.drop k).take T.length) + wsp 0 (B.drop (k + T.length))) := by
    conv => lhs; rw [hBs]
    rw [wsp_append, wsp_append, hk2, hFl, wsp_eq ((B.drop k).take T.length) (0 + k) 0 (by omega), wsp_eq (B.drop (k + T.length)) (0 + k + T.length) 0 (by omega)]
  rw [e, mix_full]
  generalize chg (ck B) ((B.drop k).take T.length) T (T.length / 2) = u at *
  generalize ck (B.take k ++ (T ++ B.drop (k + T.length))) = v at *
  omega
theorem Rd.sub {w : World} {b off len cap : Nat} {k : IntKind} {bs : List Nat} (h : Rd w (.slice (some ⟨b, off, none⟩) len cap) (nus k bs)) (j m : Nat) (hc : j + m ≤ len) : Rd w (.slice (some ⟨b, off + j, none⟩) m (cap - j)) (nus k ((bs.drop j).take m)) := by
  obtain ⟨a', cap', e, h1, h2, h3⟩ := h
  simp only [Value.slice.injEq] at e
  obtain ⟨e1, rfl, rfl⟩ := e
  rw [nus_length] at h1 h3 hc
  have hl : (nus k ((bs.drop j).take m)).length = m := by rw [nus_length]; simp; omega
  refine ⟨_, _, by rw [hl], by rw [hl]; omega, by omega, ?_⟩
  rcases h3 with h3 | ⟨b', off', he, hb, hcc⟩
  · obtain rfl := (nus_nil _ _).1 h3
    exact .inl (by simp [nus])
  · rw [← e1] at he
    cases he
    refine .inr ⟨b, off + j, rfl, hb, fun i hi => ?_⟩
    rw [hl] at hi
    rw [Nat.add_assoc, hcc (j + i) (by omega)]
    simp [nus, hi]
end Go.Proofs.Ytjcmidgeddhfoaa
