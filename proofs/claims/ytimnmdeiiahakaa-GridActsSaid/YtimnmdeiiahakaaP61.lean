/- A grid's places in plain numbers: what stands at each, told in their order; what a put leaves. Nothing of the program. -/
import Derived.Test.YtimnmdeiiahakaaBlk
namespace Go.Proofs.Ytimnmdeiiahakaa

/-- What stands from a on at n places, rising: the place's number and what is there. -/
def itF {α : Type} (c : Nat → Option α) (a n : Nat) : List (Nat × α) := (List.range' a n).filterMap fun k => (c k).map fun v => (k, v)
/-- One place changed. -/
def putC {α : Type} (c : Nat → Option α) (k : Nat) (v : Option α) : Nat → Option α := fun j => if j = k then v else c j

theorem itF_zero {α : Type} (c : Nat → Option α) (a : Nat) : itF c a 0 = [] := rfl
theorem itF_succ {α : Type} (c : Nat → Option α) (a n : Nat) : itF c a (n + 1) = ((c a).map fun v => (a, v)).toList ++ itF c (a + 1) n := by
  unfold itF
  rw [List.range'_succ]
  cases h : c a with
  | none => simp [h]
  | some v => simp [h]
theorem itF_add {α : Type} (c : Nat → Option α) (a n m : Nat) : itF c a (n + m) = itF c a n ++ itF c (a + n) m := by
  induction n generalizing a with
  | zero => simp [itF_zero]
  | succ n ih =>
    rw [show n + 1 + m = (n + m) + 1 by omega, itF_succ, itF_succ, ih, List.append_assoc, show a + 1 + n = a + (n + 1) by omega]
theorem itF_last {α : Type} (c : Nat → Option α) (a n : Nat) : itF c a (n + 1) = itF c a n ++ ((c (a + n)).map fun v => (a + n, v)).toList := by
  rw [itF_add, itF_succ, itF_zero, List.append_nil]
theorem itF_congr {α : Type} (c d : Nat → Option α) (a n : Nat) (h : ∀ j, a ≤ j → j < a + n → c j = d j) : itF c a n = itF d a n := by
  induction n generalizing a with
  | zero => rfl
  | succ n ih =>
    rw [itF_succ, itF_succ, h a (Nat.le_refl _) (by omega), ih (a + 1) fun j h1 h2 => h j (by omega) (by omega)]
theorem itF_mem {α : Type} (c : Nat → Option α) (a n : Nat) (x : Nat × α) : x ∈ itF c a n ↔ a ≤ x.1 ∧ x.1 < a + n ∧ c x.1 = some x.2 := by
  obtain ⟨k, v⟩ := x
  unfold itF
  simp only [List.mem_filterMap, List.mem_range'_1, Option.map_eq_some_iff, Prod.mk.injEq]
  constructor
  · rintro ⟨j, hj, w, hw, rfl, rfl⟩; exact ⟨hj.1, hj.2, hw⟩
  · rintro ⟨h1, h2, h3⟩; exact ⟨k, ⟨h1, h2⟩, v, h3, rfl, rfl⟩
theorem itF_at {α : Type} (c : Nat → Option α) (n k : Nat) (h : k < n) : itF c 0 n = itF c 0 k ++ (((c k).map fun v => (k, v)).toList ++ itF c (k + 1) (n - k - 1)) := by
  have e : n = k + ((n - k - 1) + 1) := by omega
  conv => lhs; rw [e]
  rw [itF_add, itF_succ, Nat.zero_add]
theorem itF_put {α : Type} (c : Nat → Option α) (n k : Nat) (v : Option α) (h : k < n) : itF (putC c k v) 0 n = itF c 0 k ++ ((v.map fun v => (k, v)).toList ++ itF c (k + 1) (n - k - 1)) := by
  rw [itF_at _ _ _ h]
  congr 1
  · exact itF_congr _ _ _ _ fun j _ hj => by unfold putC; rw [if_neg (by omega)]
  · congr 1
    · unfold putC; rw [if_pos rfl]
    · exact itF_congr _ _ _ _ fun j hj _ => by unfold putC; rw [if_neg (by omega)]
theorem itF_low {α : Type} (c : Nat → Option α) (k : Nat) (x : Nat × α) (h : x ∈ itF c 0 k) : x.1 < k := by
  have := ((itF_mem c 0 k x).mp h).2.1; omega
theorem itF_len {α : Type} (c : Nat → Option α) (a n : Nat) : (itF c a n).length ≤ n := by
  unfold itF; exact Nat.le_trans (List.length_filterMap_le _ _) (by rw [List.length_range']; exact Nat.le_refl _)
/-- The first of what stands at k or behind it. -/
theorem itF_while {α : Type} (c : Nat → Option α) (n k : Nat) (h : k < n) : (itF c 0 n).takeWhile (fun x => decide (x.1 < k)) = itF c 0 k := by
  rw [itF_at c n k h, List.takeWhile_append_of_pos fun x hx => decide_eq_true (itF_low c k x hx)]
  suffices H : List.takeWhile (fun x : Nat × α => decide (x.1 < k)) (((c k).map fun v => (k, v)).toList ++ itF c (k + 1) (n - k - 1)) = [] by rw [H, List.append_nil]
  cases hl : ((c k).map fun v => (k, v)).toList ++ itF c (k + 1) (n - k - 1) with
  | nil => rfl
  | cons y r =>
    have hy : y ∈ ((c k).map fun v => (k, v)).toList ++ itF c (k + 1) (n - k - 1) := by rw [hl]; exact List.mem_cons_self
    have : ¬ y.1 < k := by
      rcases List.mem_append.mp hy with h1 | h1
      · rw [Option.mem_toList, Option.map_eq_some_iff] at h1
        obtain ⟨v, _, rfl⟩ := h1; exact Nat.lt_irrefl _
      · have := ((itF_mem _ _ _ _).mp h1).1; omega
    rw [List.takeWhile_cons, decide_eq_false this]; rfl
/-- What stands behind the ones below k. -/
theorem itF_nth {α : Type} (c : Nat → Option α) (n k : Nat) (h : k < n) (v : α) (hv : c k = some v) : (itF c 0 n)[(itF c 0 k).length]? = some (k, v) := by
  rw [itF_at c n k h, List.getElem?_append_right (Nat.le_refl _), Nat.sub_self, hv]; rfl
theorem itF_nth_ne {α : Type} (c : Nat → Option α) (n k : Nat) (hv : c k = none) (x : Nat × α) (hx : (itF c 0 n)[(itF c 0 k).length]? = some x) : x.1 ≠ k := by
  intro e
  have := (itF_mem c 0 n x).mp (List.mem_of_getElem? hx)
  rw [e, hv] at this; exact absurd this.2.2 (by simp)
theorem itF_take {α : Type} (c : Nat → Option α) (n k : Nat) (h : k < n) : (itF c 0 n).take (itF c 0 k).length = itF c 0 k := by
  rw [itF_at c n k h, List.take_append_of_le_length (Nat.le_refl _), List.take_length]
theorem itF_drop {α : Type} (c : Nat → Option α) (n k : Nat) (h : k < n) (v : α) (hv : c k = some v) : (itF c 0 n).drop ((itF c 0 k).length + 1) = itF c (k + 1) (n - k - 1) := by
  rw [itF_at c n k h, hv, ← List.drop_drop, List.drop_left]; rfl
theorem itF_drop_none {α : Type} (c : Nat → Option α) (n k : Nat) (h : k < n) (hv : c k = none) : (itF c 0 n).drop (itF c 0 k).length = itF c (k + 1) (n - k - 1) := by
  rw [itF_at c n k h, hv, List.drop_left]; rfl
/-- What the three acts leave: changed in place, put between, taken out. -/
theorem itF_change {α : Type} (c : Nat → Option α) (n k : Nat) (h : k < n) (v w : α) (hv : c k = some v) : itF (putC c k (some w)) 0 n = (itF c 0 n).set (itF c 0 k).length (k, w) := by
  rw [itF_put c n k _ h, itF_at c n k h, hv, List.set_append_right _ _ (Nat.le_refl _), Nat.sub_self]; rfl
theorem itF_between {α : Type} (c : Nat → Option α) (n k : Nat) (h : k < n) (w : α) (hv : c k = none) : itF (putC c k (some w)) 0 n = (itF c 0 n).take (itF c 0 k).length ++ [(k, w)] ++ (itF c 0 n).drop (itF c 0 k).length := by
  rw [itF_put c n k _ h, itF_take c n k h, itF_drop_none c n k h hv, List.append_assoc]; rfl
theorem itF_out {α : Type} (c : Nat → Option α) (n k : Nat) (h : k < n) (v : α) (hv : c k = some v) : itF (putC c k none) 0 n = (itF c 0 n).take (itF c 0 k).length ++ (itF c 0 n).drop ((itF c 0 k).length + 1) := by
  rw [itF_put c n k _ h, itF_take c n k h, itF_drop c n k h v hv]; rfl
theorem putC_same {α : Type} (c : Nat → Option α) (k : Nat) : putC c k (c k) = c := by
  funext j; unfold putC; split
  · next e => rw [e]
  · rfl
theorem putC_at {α : Type} (c : Nat → Option α) (k : Nat) (v : Option α) : putC c k v k = v := if_pos rfl
theorem putC_off {α : Type} (c : Nat → Option α) (k j : Nat) (v : Option α) (h : j ≠ k) : putC c k v j = c j := if_neg h
theorem itF_none {α : Type} (a n : Nat) : itF (fun _ => (none : Option α)) a n = [] := by
  induction n generalizing a with
  | zero => rfl
  | succ n ih => rw [itF_succ, ih]; rfl
theorem itF_full {α : Type} (f : Nat → α) (a n : Nat) : itF (fun k => some (f k)) a n = (List.range' a n).map fun k => (k, f k) := by
  induction n generalizing a with
  | zero => rfl
  | succ n ih => rw [itF_succ, ih, List.range'_succ]; rfl
theorem itF_one {α : Type} (n k : Nat) (v : α) (h : k < n) : itF (putC (fun _ => none) k (some v)) 0 n = [(k, v)] := by
  rw [itF_put _ n k _ h, itF_none, itF_none]; rfl

/-- A place's number, and the order of two places. -/
theorem plc_lt (z s i : Nat) (hi : i < z) (t : Nat) (hs : s < t) : s * z + i < t * z := by
  have := Nat.mul_le_mul_right z (Nat.succ_le_of_lt hs)
  rw [Nat.succ_mul] at this; omega
theorem plc_div (z s i : Nat) (hi : i < z) : (s * z + i) / z = s := by
  rw [Nat.mul_comm, Nat.mul_add_div (by omega), Nat.div_eq_of_lt hi, Nat.add_zero]
theorem plc_mod (z s i : Nat) (hi : i < z) : (s * z + i) % z = i := by
  rw [Nat.mul_comm, Nat.mul_add_mod, Nat.mod_eq_of_lt hi]
theorem plc_back (z k : Nat) : k / z * z + k % z = k := Nat.div_add_mod' k z
theorem plc_before (z k s i : Nat) (hi : i < z) : (k / z < s ∨ k / z = s ∧ k % z < i) ↔ k < s * z + i := by
  have hz : 0 < z := by omega
  have hk := plc_back z k
  have hm := Nat.mod_lt k hz
  generalize k / z = a at *; generalize k % z = b at *
  subst hk
  constructor
  · rintro (h | ⟨rfl, h⟩)
    · have := plc_lt z a b hm s h; omega
    · omega
  · intro h
    rcases Nat.lt_trichotomy a s with h1 | h1 | h1
    · exact Or.inl h1
    · subst h1; exact Or.inr ⟨rfl, by omega⟩
    · have := plc_lt z s i hi a h1; omega
theorem plc_same (z k s i : Nat) (hi : i < z) : (k / z = s ∧ k % z = i) ↔ k = s * z + i := by
  constructor
  · rintro ⟨rfl, rfl⟩; exact (plc_back z k).symm
  · rintro rfl; exact ⟨plc_div z s i hi, plc_mod z s i hi⟩
theorem plc_in (z t k : Nat) (h : k < t * z) : k / z < t := Nat.div_lt_of_lt_mul (by rw [Nat.mul_comm]; exact h)
end Go.Proofs.Ytimnmdeiiahakaa
