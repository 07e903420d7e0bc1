/- Addresses as plain lists: what a text of either kind is, and what is read of any text. Nothing of the program. -/
import Derived.Lib.IndexMore
import Derived.Lib.ItoaNum
import Derived.Lib.ParseIntB
namespace Go.Proofs.YtjcmidgeddhfoaaDoor
open Go.Lib

/-- The byte that a text spells in decimal, as it would be written. -/
def byteOf (l : List UInt8) : Option Nat :=
  match parseUintB 8 l with
  | .ok u => if decDigits u = l then some u else none
  | _ => none

theorem parseM_le (M : Nat) : ∀ (l : List UInt8) (acc u : Nat), acc ≤ M → parseUintM M acc l = .ok u → u ≤ M
  | [], acc, u, h, e => by simp [parseUintM] at e; omega
  | c :: r, acc, u, h, e => by
    unfold parseUintM at e
    split at e
    · split at e
      · cases e
      · split at e
        · cases e
        · exact parseM_le M r _ u (by omega) e
    · cases e

theorem ext_getD {α : Type} (a b : List α) (d : α) (hl : a.length = b.length) (h : ∀ i, i < a.length → a.getD i d = b.getD i d) : a = b := by
  refine List.ext_getElem hl fun i h1 h2 => ?_
  have := h i h1
  simpa [List.getD_eq_getElem?_getD, h1, h2] using this

theorem byteOf_some {l : List UInt8} {u : Nat} (h : byteOf l = some u) : u < 256 ∧ decDigits u = l := by
  unfold byteOf at h
  split at h
  · rename_i u' e
    split at h
    · rename_i e2
      cases h
      refine ⟨?_, e2⟩
      unfold parseUintB at e
      split at e
      · cases e
      · have := parseM_le _ _ _ _ (Nat.zero_le _) e
        omega
    · cases h
  · cases h

/-- The digits of a number below a thousand. -/
def dec3 (u : Nat) : List UInt8 :=
  if u < 10 then [UInt8.ofNat (48 + u)] else if u < 100 then [UInt8.ofNat (48 + u / 10), UInt8.ofNat (48 + u % 10)] else [UInt8.ofNat (48 + u / 100), UInt8.ofNat (48 + u / 10 % 10), UInt8.ofNat (48 + u % 10)]

theorem dec_dec3 (u : Nat) (h : u < 1000) : decDigits u = dec3 u := by
  unfold dec3
  split
  · rename_i h1; rw [decDigits_one h1]
  · rename_i h1
    split
    · rename_i h2; rw [decDigits_two h1 h2]
    · rename_i h2
      rw [decDigits, dif_neg h1, decDigits_two (by omega) (by omega)]
      simp [Nat.div_div_eq_div_mul]

theorem parse_dec3 : ∀ u : Fin 256, parseUintB 8 (dec3 u.1) = .ok u.1 := by decide +kernel
theorem byteOf_dec (u : Nat) (h : u < 256) : byteOf (decDigits u) = some u := by
  have e := parse_dec3 ⟨u, h⟩
  unfold byteOf
  rw [dec_dec3 u (by omega)]
  simp only at e
  rw [e]
  show (if decDigits u = dec3 u then some u else none) = some u
  rw [if_pos (dec_dec3 u (by omega))]

theorem dec3_plain : ∀ u : Fin 256, (∀ c ∈ dec3 u.1, c ≠ 46) ∧ dec3 u.1 ≠ [] ∧ (dec3 u.1).length ≤ 3 := by decide +kernel
theorem dec_plain (u : Nat) (h : u < 256) : (∀ c ∈ decDigits u, c ≠ 46) ∧ decDigits u ≠ [] ∧ (decDigits u).length ≤ 3 := by
  rw [dec_dec3 u (by omega)]
  exact dec3_plain ⟨u, h⟩

/-! ### Cut at the first point -/

/-- What is ahead of the first 46, what is behind it, and whether there is one. -/
def cut46 (l : List UInt8) : List UInt8 × List UInt8 × Bool := cut l [46]

theorem index46_nil : index [] [46] = -1 := by decide
theorem index46_cons (c : UInt8) (l : List UInt8) : index (c :: l) [46] = if c = 46 then 0 else if index l [46] = -1 then -1 else index l [46] + 1 := by
  rw [index]
  by_cases h : c = 46
  · subst h; simp
  · rw [if_neg (by simp; exact fun e => h e.symm), if_neg h]
    simp

theorem cut46_nil : cut46 [] = ([], [], false) := by decide
theorem cut46_cons (c : UInt8) (l : List UInt8) : cut46 (c :: l) = if c = 46 then ([], l, true) else (c :: (cut46 l).1, (cut46 l).2.1, (cut46 l).2.2) := by
  have hg := index_ge l [46]
  unfold cut46 cut
  rw [index46_cons]
  by_cases h : c = 46
  · simp [h]
  · simp only [if_neg h]
    by_cases hm : index l [46] = -1
    · simp [hm]
    · rw [if_neg hm, if_pos (by omega), if_pos (by omega)]
      have e : (index l [46] + 1).toNat = (index l [46]).toNat + 1 := by omega
      rw [e]
      simp

theorem cut46_back : ∀ l : List UInt8, if (cut46 l).2.2 = true then (cut46 l).1 ++ 46 :: (cut46 l).2.1 = l else (cut46 l).1 = l ∧ (cut46 l).2.1 = []
  | [] => by simp [cut46_nil]
  | c :: l => by
    rw [cut46_cons]
    by_cases h : c = 46
    · simp [h]
    · have := cut46_back l
      simp only [if_neg h]
      split
      · rename_i ht
        rw [if_pos (by simpa using ht)] at this
        simp [this]
      · rename_i ht
        rw [if_neg (by simpa using ht)] at this
        simp [this]

theorem cut46_plain : ∀ (l r : List UInt8), (∀ c ∈ l, c ≠ 46) → cut46 (l ++ 46 :: r) = (l, r, true)
  | [], r, _ => by rw [List.nil_append, cut46_cons, if_pos rfl]
  | c :: l, r, h => by
    rw [List.cons_append, cut46_cons, if_neg (h c List.mem_cons_self), cut46_plain l r (fun x hx => h x (List.mem_cons_of_mem _ hx))]
theorem cut46_none : ∀ (l : List UInt8), (∀ c ∈ l, c ≠ 46) → cut46 l = (l, [], false)
  | [], _ => cut46_nil
  | c :: l, h => by
    rw [cut46_cons, if_neg (h c List.mem_cons_self), cut46_none l (fun x hx => h x (List.mem_cons_of_mem _ hx))]

/-! ### IPv4 -/

/-- The numbers in decimal, points between. -/
def text4 : List Nat → List UInt8
  | [] => []
  | [n] => decDigits n
  | n :: m :: r => decDigits n ++ 46 :: text4 (m :: r)

/-- So many numbers, points between. -/
def parse4 : Nat → List UInt8 → Option (List Nat)
  | 0, _ => some []
  | k + 1, l =>
    match byteOf (cut46 l).1 with
    | none => none
    | some n => if (cut46 l).2.2 = decide (0 < k) then (parse4 k (cut46 l).2.1).map (n :: ·) else none

theorem parse4_some : ∀ (k : Nat) (l : List UInt8) (ns : List Nat), parse4 (k + 1) l = some ns → ns.length = k + 1 ∧ (∀ n ∈ ns, n < 256) ∧ text4 ns = l
  | 0, l, ns, h => by
    unfold parse4 at h
    split at h
    · cases h
    · rename_i n e
      split at h
      · rename_i e2
        simp [parse4] at h
        subst h
        obtain ⟨h1, h2⟩ := byteOf_some e
        have hc := cut46_back l
        rw [if_neg (by simp [e2])] at hc
        exact ⟨rfl, by simpa using h1, by simp [text4, h2, hc.1]⟩
      · cases h
  | k + 1, l, ns, h => by
    unfold parse4 at h
    split at h
    · cases h
    · rename_i n e
      split at h
      · rename_i e2
        rw [Option.map_eq_some_iff] at h
        obtain ⟨ms, hms, rfl⟩ := h
        obtain ⟨h1, h2⟩ := byteOf_some e
        obtain ⟨g1, g2, g3⟩ := parse4_some k _ ms hms
        have hc := cut46_back l
        rw [if_pos (by simp [e2])] at hc
        refine ⟨by simp [g1], by simpa using ⟨h1, g2⟩, ?_⟩
        match ms, g1 with
        | m :: r, _ => rw [text4, h2, g3, hc]
      · cases h

theorem parse4_text : ∀ (k : Nat) (ns : List Nat), ns.length = k + 1 → (∀ n ∈ ns, n < 256) → parse4 (k + 1) (text4 ns) = some ns
  | 0, ns, hl, hb => by
    match ns, hl with
    | [n], _ =>
      have hn : n < 256 := hb n List.mem_cons_self
      unfold parse4
      rw [text4, cut46_none _ (dec_plain n hn).1, byteOf_dec n hn]
      simp [parse4]
  | k + 1, ns, hl, hb => by
    match ns, hl with
    | n :: m :: r, hl =>
      have hn : n < 256 := hb n List.mem_cons_self
      unfold parse4
      rw [text4, cut46_plain _ _ (dec_plain n hn).1, byteOf_dec n hn]
      have := parse4_text k (m :: r) (by simpa using hl) (fun x hx => hb x (List.mem_cons_of_mem _ hx))
      simp [this]

theorem text4_last : ∀ (ns : List Nat), ns ≠ [] → (∀ n ∈ ns, n < 256) → ∀ r, text4 ns ≠ r ++ [46]
  | [], h, _, _ => absurd rfl h
  | [n], _, hb, r => by
    rw [text4]
    intro e
    exact (dec_plain n (hb n List.mem_cons_self)).1 46 (by rw [e]; simp) rfl
  | n :: m :: t, _, hb, r => by
    rw [text4]
    intro e
    have h2 := text4_last (m :: t) (by simp) (fun x hx => hb x (List.mem_cons_of_mem _ hx))
    have hne : text4 (m :: t) ≠ [] := by
      have hm := (dec_plain m (hb m (by simp))).2.1
      cases t with
      | nil => rw [text4]; exact hm
      | cons a b => rw [text4]; simp
    obtain ⟨q, x, hq⟩ : ∃ q x, text4 (m :: t) = q ++ [x] := ⟨_, _, (List.dropLast_concat_getLast hne).symm⟩
    have : x = 46 := by
      rw [hq] at e
      have := congrArg List.getLast? (show (decDigits n ++ 46 :: q) ++ [x] = r ++ [46] from by rw [← e]; simp)
      rw [List.getLast?_concat, List.getLast?_concat] at this
      exact Option.some.inj this
    exact h2 q (by rw [hq, this])

theorem parse4_point (k : Nat) (r : List UInt8) : parse4 (k + 1) (r ++ [46]) = none := by
  rcases h : parse4 (k + 1) (r ++ [46]) with _ | ns
  · rfl
  · obtain ⟨h1, h2, h3⟩ := parse4_some k _ _ h
    exact absurd h3 (text4_last ns (by intro e; simp [e] at h1) h2 r)

/-! ### V6 -/

/-- The signs 0 to 9, a to f. -/
def hexs : List UInt8 := [48, 49, 50, 51, 52, 53, 54, 55, 56, 57, 97, 98, 99, 100, 101, 102]
/-- The sign of a number below sixteen. -/
def hx (n : Nat) : UInt8 := hexs.getD n 0
/-- The place of a sign among them, or -1. -/
def hv (c : UInt8) : Int := indexByte hexs c

theorem hv_hx : ∀ n : Fin 16, hv (hx n.1) = (n.1 : Int) := by decide +kernel
theorem hx_hv : ∀ n : Fin 256, -1 ≤ hv (UInt8.ofNat n.1) ∧ hv (UInt8.ofNat n.1) < 16 ∧ (0 ≤ hv (UInt8.ofNat n.1) → hx (hv (UInt8.ofNat n.1)).toNat = UInt8.ofNat n.1) := by decide +kernel
theorem hv_all (c : UInt8) : -1 ≤ hv c ∧ hv c < 16 ∧ (0 ≤ hv c → hx (hv c).toNat = c) := by
  have := hx_hv ⟨c.toNat, c.toNat_lt⟩
  simpa using this
theorem hv_46 : hv 46 = -1 := by decide

/-- The sign at place j of an address's text. -/
def chr6 (bs : List Nat) (j : Nat) : UInt8 :=
  if j % 5 = 4 then 58 else if j % 5 % 2 = 0 then hx (bs.getD (2 * (j / 5) + j % 5 / 2) 0 / 16) else hx (bs.getD (2 * (j / 5) + j % 5 / 2) 0 % 16)
/-- The first n signs. -/
def text6to (bs : List Nat) (n : Nat) : List UInt8 := (List.range n).map (chr6 bs)
def text6 (bs : List Nat) : List UInt8 := text6to bs 39
/-- Where byte i's signs begin. -/
def at6 (i : Nat) : Nat := 2 * i + i / 2

/-- Is byte i there? -/
def ok6 (l : List UInt8) (i : Nat) : Bool :=
  (decide (0 < i) && decide (i % 2 = 0)).not.or (l.getD (at6 i - 1) 0 == 58) && (decide (0 ≤ hv (l.getD (at6 i) 0)) && decide (0 ≤ hv (l.getD (at6 i + 1) 0)))
def val6 (l : List UInt8) (i : Nat) : Nat := (hv (l.getD (at6 i) 0)).toNat * 16 + (hv (l.getD (at6 i + 1) 0)).toNat
def vals6 (l : List UInt8) (n : Nat) : List Nat := (List.range n).map (val6 l)
def parse6 (l : List UInt8) : Option (List Nat) :=
  if l.length = 39 ∧ (List.range 16).all (ok6 l) = true then some (vals6 l 16) else none

theorem vals6_length (l : List UInt8) (n : Nat) : (vals6 l n).length = n := by simp [vals6]
theorem vals6_getD (l : List UInt8) (n i : Nat) (h : i < n) : (vals6 l n).getD i 0 = val6 l i := by simp [vals6, List.getD_eq_getElem?_getD, h]
theorem val6_lt (l : List UInt8) (i : Nat) : val6 l i < 256 := by
  unfold val6
  have h1 := hv_all (l.getD (at6 i) 0)
  have h2 := hv_all (l.getD (at6 i + 1) 0)
  omega
theorem vals6_lt (l : List UInt8) (n : Nat) : ∀ c ∈ vals6 l n, c < 256 := by
  intro c hc
  simp only [vals6, List.mem_map] at hc
  obtain ⟨i, _, rfl⟩ := hc
  exact val6_lt l i

theorem ok6_spec {l : List UInt8} {i : Nat} (h : ok6 l i = true) : (0 < i → i % 2 = 0 → l.getD (at6 i - 1) 0 = 58) ∧ 0 ≤ hv (l.getD (at6 i) 0) ∧ 0 ≤ hv (l.getD (at6 i + 1) 0) := by
  simp only [ok6, Bool.and_eq_true, Bool.or_eq_true, Bool.not_eq_true', Bool.and_eq_false_iff, decide_eq_true_eq, decide_eq_false_iff_not, beq_iff_eq] at h
  obtain ⟨h1, h2, h3⟩ := h
  refine ⟨fun a b => ?_, h2, h3⟩
  rcases h1 with (h1 | h1) | h1
  · exact absurd a h1
  · exact absurd b h1
  · exact h1
theorem ok6_mk {l : List UInt8} {i : Nat} (h1 : 0 < i → i % 2 = 0 → l.getD (at6 i - 1) 0 = 58) (h2 : 0 ≤ hv (l.getD (at6 i) 0)) (h3 : 0 ≤ hv (l.getD (at6 i + 1) 0)) : ok6 l i = true := by
  simp only [ok6, Bool.and_eq_true, Bool.or_eq_true, Bool.not_eq_true', Bool.and_eq_false_iff, decide_eq_true_eq, decide_eq_false_iff_not, beq_iff_eq]
  refine ⟨?_, h2, h3⟩
  by_cases a : 0 < i
  · by_cases b : i % 2 = 0
    · exact .inr (h1 a b)
    · exact .inl (.inr b)
  · exact .inl (.inl a)

theorem text6_length (bs : List Nat) : (text6 bs).length = 39 := by simp [text6, text6to]
theorem text6_getD (bs : List Nat) (j : Nat) (h : j < 39) : (text6 bs).getD j 0 = chr6 bs j := by simp [text6, text6to, List.getD_eq_getElem?_getD, h]

theorem parse6_some {l : List UInt8} {bs : List Nat} (h : parse6 l = some bs) : bs.length = 16 ∧ (∀ c ∈ bs, c < 256) ∧ text6 bs = l := by
  unfold parse6 at h
  split at h
  · rename_i hh
    obtain ⟨hl, hok0⟩ := hh
    have hok : ∀ i, i < 16 → ok6 l i = true := fun i hi => List.all_eq_true.1 hok0 i (List.mem_range.2 hi)
    cases h
    refine ⟨vals6_length _ _, vals6_lt _ _, ?_⟩
    refine ext_getD _ _ 0 (by rw [text6_length, hl]) fun j h1 => ?_
    rw [text6_length] at h1
    rw [text6_getD _ _ h1]
    have g : ∀ i, i < 16 → (vals6 l 16).getD i 0 = val6 l i := fun i hi => vals6_getD l 16 i hi
    unfold chr6
    split
    · rename_i h4
      have := (ok6_spec (hok (2 * (j / 5) + 2) (by omega))).1 (by omega) (by omega)
      rw [← this]
      congr 1
      unfold at6
      omega
    · rename_i h4
      have hi : 2 * (j / 5) + j % 5 / 2 < 16 := by omega
      obtain ⟨_, k1, k2⟩ := ok6_spec (hok _ hi)
      rw [g _ hi]
      obtain ⟨_, b1, c1⟩ := hv_all (l.getD (at6 (2 * (j / 5) + j % 5 / 2)) 0)
      obtain ⟨_, b2, c2⟩ := hv_all (l.getD (at6 (2 * (j / 5) + j % 5 / 2) + 1) 0)
      split
      · rename_i h5
        have e : val6 l (2 * (j / 5) + j % 5 / 2) / 16 = (hv (l.getD (at6 (2 * (j / 5) + j % 5 / 2)) 0)).toNat := by unfold val6; omega
        rw [e, c1 k1]
        congr 1
        unfold at6
        omega
      · rename_i h5
        have e : val6 l (2 * (j / 5) + j % 5 / 2) % 16 = (hv (l.getD (at6 (2 * (j / 5) + j % 5 / 2) + 1) 0)).toNat := by unfold val6; omega
        rw [e, c2 k2]
        congr 1
        unfold at6
        omega
  · cases h

theorem at6_even (m : Nat) : at6 (2 * m) = 5 * m := by unfold at6; omega
theorem at6_odd (m : Nat) : at6 (2 * m + 1) = 5 * m + 2 := by unfold at6; omega
theorem parity (i : Nat) : (∃ m, i = 2 * m) ∨ ∃ m, i = 2 * m + 1 := by
  rcases Nat.mod_two_eq_zero_or_one i with h | h
  · exact .inl ⟨i / 2, by omega⟩
  · exact .inr ⟨i / 2, by omega⟩
theorem chr6_hi (bs : List Nat) (i : Nat) : chr6 bs (at6 i) = hx (bs.getD i 0 / 16) := by
  rcases parity i with ⟨m, rfl⟩ | ⟨m, rfl⟩
  · rw [at6_even, chr6, if_neg (by omega), if_pos (by omega), show 2 * (5 * m / 5) + 5 * m % 5 / 2 = 2 * m by omega]
  · rw [at6_odd, chr6, if_neg (by omega), if_pos (by omega), show 2 * ((5 * m + 2) / 5) + (5 * m + 2) % 5 / 2 = 2 * m + 1 by omega]
theorem chr6_lo (bs : List Nat) (i : Nat) : chr6 bs (at6 i + 1) = hx (bs.getD i 0 % 16) := by
  rcases parity i with ⟨m, rfl⟩ | ⟨m, rfl⟩
  · rw [at6_even, chr6, if_neg (by omega), if_neg (by omega), show 2 * ((5 * m + 1) / 5) + (5 * m + 1) % 5 / 2 = 2 * m by omega]
  · rw [at6_odd, chr6, if_neg (by omega), if_neg (by omega), show 2 * ((5 * m + 2 + 1) / 5) + (5 * m + 2 + 1) % 5 / 2 = 2 * m + 1 by omega]
theorem chr6_colon (bs : List Nat) (i : Nat) (h0 : 0 < i) (h2 : i % 2 = 0) : chr6 bs (at6 i - 1) = 58 := by
  unfold chr6 at6
  rw [if_pos (by omega)]

theorem parse6_text (bs : List Nat) (hl : bs.length = 16) (hb : ∀ c ∈ bs, c < 256) : parse6 (text6 bs) = some bs := by
  have hbd : ∀ i, bs.getD i 0 < 256 := fun i => by
    rw [List.getD_eq_getElem?_getD]
    by_cases h : i < bs.length
    · rw [List.getElem?_eq_getElem h, Option.getD_some]; exact hb _ (List.getElem_mem h)
    · rw [List.getElem?_eq_none (by omega)]; decide
  have k1 : ∀ i, i < 16 → hv ((text6 bs).getD (at6 i) 0) = ((bs.getD i 0 / 16 : Nat) : Int) := fun i hi => by
    rw [text6_getD _ _ (by unfold at6; omega), chr6_hi]
    exact hv_hx ⟨_, by have := hbd i; omega⟩
  have k2 : ∀ i, i < 16 → hv ((text6 bs).getD (at6 i + 1) 0) = ((bs.getD i 0 % 16 : Nat) : Int) := fun i hi => by
    rw [text6_getD _ _ (by unfold at6; omega), chr6_lo]
    exact hv_hx ⟨_, by omega⟩
  unfold parse6
  rw [if_pos ⟨text6_length bs, List.all_eq_true.2 fun i hi0 => have hi : i < 16 := List.mem_range.1 hi0; ok6_mk (fun a b => by rw [text6_getD _ _ (by unfold at6; omega)]; exact chr6_colon bs i a b) (by rw [k1 i hi]; omega) (by rw [k2 i hi]; omega)⟩]
  congr 1
  refine ext_getD _ _ 0 (by rw [vals6_length, hl]) fun i h1 => ?_
  rw [vals6_length] at h1
  rw [vals6_getD _ _ _ h1]
  unfold val6
  rw [k1 i h1, k2 i h1]
  have := hbd i
  omega

theorem parse6_point (r : List UInt8) : parse6 (r ++ [46]) = none := by
  unfold parse6
  rw [if_neg]
  rintro ⟨h1, h2⟩
  have h3 := (ok6_spec (List.all_eq_true.1 h2 15 (List.mem_range.2 (by omega)))).2.2
  have hr : r.length = 38 := by simpa using h1
  have : (r ++ [46]).getD (at6 15 + 1) 0 = 46 := by
    show (r ++ [46]).getD 38 0 = 46
    rw [List.getD_eq_getElem?_getD, List.getElem?_append_right (by omega), hr]
    rfl
  rw [this, hv_46] at h3
  omega

/-! ### Either -/

/-- What is read of a text: the kind, and sixteen bytes. -/
def parseA (l : List UInt8) : Option (Bool × List Nat) :=
  match parse4 4 l with
  | some ns => some (false, ns ++ List.replicate 12 0)
  | none => (parse6 l).map fun bs => (true, bs)
def textA (v : Bool) (bs : List Nat) : List UInt8 := if v then text6 bs else text4 (bs.take 4)
def validA (v : Bool) (bs : List Nat) : Prop := v = true ∨ ∀ i, 4 ≤ i → i < 16 → bs.getD i 0 = 0

theorem parseA_some {l : List UInt8} {v : Bool} {bs : List Nat} (h : parseA l = some (v, bs)) : bs.length = 16 ∧ (∀ c ∈ bs, c < 256) ∧ textA v bs = l := by
  unfold parseA at h
  split at h
  · rename_i ns e
    obtain ⟨h1, h2, h3⟩ := parse4_some 3 l ns e
    simp only [Option.some.injEq, Prod.mk.injEq] at h
    obtain ⟨rfl, rfl⟩ := h
    refine ⟨by simp [h1], fun c hc => ?_, ?_⟩
    · rcases List.mem_append.1 hc with hc | hc
      · exact h2 c hc
      · rw [List.eq_of_mem_replicate hc]; decide
    · simp [textA, List.take_append_of_le_length (Nat.le_of_eq h1.symm), List.take_of_length_le (Nat.le_of_eq h1), h3]
  · rw [Option.map_eq_some_iff] at h
    obtain ⟨b, hb, e⟩ := h
    simp only [Prod.mk.injEq] at e
    obtain ⟨rfl, rfl⟩ := e
    exact parse6_some hb

theorem text6_no4 (bs : List Nat) : parse4 4 (text6 bs) = none := by
  rcases h : parse4 4 (text6 bs) with _ | ns
  · rfl
  · obtain ⟨h1, h2, h3⟩ := parse4_some 3 _ _ h
    have hl := congrArg List.length h3
    rw [text6_length] at hl
    match ns, h1 with
    | [a, b, c, d], _ =>
      have ha := (dec_plain a (h2 a (by simp))).2.2
      have hb := (dec_plain b (h2 b (by simp))).2.2
      have hc := (dec_plain c (h2 c (by simp))).2.2
      have hd := (dec_plain d (h2 d (by simp))).2.2
      simp [text4] at hl
      omega

theorem parseA_text (v : Bool) (bs : List Nat) (hl : bs.length = 16) (hb : ∀ c ∈ bs, c < 256) (hv : validA v bs) : parseA (textA v bs) = some (v, bs) := by
  cases v with
  | true =>
    simp only [textA, parseA, if_true]
    rw [text6_no4, parse6_text bs hl hb]
    rfl
  | false =>
    simp only [textA, parseA, Bool.false_eq_true, if_false]
    rw [parse4_text 3 (bs.take 4) (by simp [hl]) (fun n hn => hb n (List.mem_of_mem_take hn))]
    simp only [Option.some.injEq, Prod.mk.injEq, true_and]
    rcases hv with hv | hv
    · cases hv
    · refine List.ext_getElem (by simp [hl]) fun i h1 h2 => ?_
      by_cases hi : i < 4
      · rw [List.getElem_append_left (by simp [hl]; omega)]
        simp
      · have e2 : bs[i] = bs.getD i 0 := by rw [List.getD_eq_getElem?_getD, List.getElem?_eq_getElem h2, Option.getD_some]
        rw [List.getElem_append_right (by simp [hl]; omega), e2, hv i (by omega) (by omega), List.getElem_replicate]

theorem parseA_point (r : List UInt8) : parseA (r ++ [46]) = none := by
  unfold parseA
  rw [parse4_point, parse6_point]
  rfl
end Go.Proofs.YtjcmidgeddhfoaaDoor
