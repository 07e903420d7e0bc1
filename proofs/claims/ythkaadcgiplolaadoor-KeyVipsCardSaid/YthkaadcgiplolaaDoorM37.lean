/- Texts that the walks of this seat lean on, put together. -/
import Derived.Lib.IndexMore
import Derived.Lib.ItoaNum
import Derived.Lib.ParseIntB
import Derived.Lib.AppendIntMem
import Derived.Lib.AtoiErrMem
import Derived.WalkKit
import Derived.WalkSpells
import Derived.WalkLawsBesides
import Derived.BigCall
import Derived.BigGuard
import Derived.BigQuiet
import Derived.Deep.QuietTactic
import Derived.Lib.Hide
import Derived.Lib.ItoaMem
import Derived.LoopTactic
import Derived.OwnWalk
import Derived.Handy
import Derived.OrdersHeld
import Derived.Deep.RegionHeld
import Derived.Test.YthkaadcgiplolaaDoorTk
import Derived.Test.YthkaadcgiplolaaDoorM01
import Derived.Test.YthkaadcgiplolaaDoorM03
import Derived.Test.YthkaadcgiplolaaDoorM04
import Derived.Test.YthkaadcgiplolaaDoorM13
import Derived.Test.YthkaadcgiplolaaDoorM15
namespace Go.Proofs.YthkaadcgiplolaaDoor
open Go.Lib
def byteOf (l : List UInt8) : Option Nat :=
  match parseUintB 8 l with
  | .ok u => if decDigits u = l then some u else none
  | _ => none
set_option maxRecDepth 100000 in
theorem parseM_le (M : Nat) : ∀ (l : List UInt8) (acc u : Nat), acc ≤ M → parseUintM M acc l = .ok u → u ≤ M
  | [], acc, u, h, e => by simp [parseUintM] at e; omega
  | c :: r, acc, u, h, e => by
    unfold parseUintM at e
    split at e
    · split at e
      · cases e
      · split at e
        · cases e
        · exact parseM_le M r _ u (by omega) e
    · cases e
set_option maxRecDepth 100000 in
theorem byteOf_some {l : List UInt8} {u : Nat} (h : byteOf l = some u) : u < 256 ∧ decDigits u = l := by
  unfold byteOf at h
  split at h
  · rename_i u' e
    split at h
    · rename_i e2
      cases h
      refine ⟨?_, e2⟩
      unfold parseUintB at e
      split at e
      · cases e
      · have := parseM_le _ _ _ _ (Nat.zero_le _) e
        omega
    · cases h
  · cases h
def dec3 (u : Nat) : List UInt8 :=
  if u < 10 then [UInt8.ofNat (48 + u)] else if u < 100 then [UInt8.ofNat (48 + u / 10), UInt8.ofNat (48 + u % 10)] else [UInt8.ofNat (48 + u / 100), UInt8.ofNat (48 + u / 10 % 10), UInt8.ofNat (48 + u % 10)]
set_option maxRecDepth 100000 in
theorem dec_dec3 (u : Nat) (h : u < 1000) : decDigits u = dec3 u := by
  unfold dec3
  split
  · rename_i h1; rw [decDigits_one h1]
  · rename_i h1
    split
    · rename_i h2; rw [decDigits_two h1 h2]
    · rename_i h2
      rw [decDigits, dif_neg h1, decDigits_two (by omega) (by omega)]
      simp [Nat.div_div_eq_div_mul]
set_option maxRecDepth 100000 in
theorem parse_dec3 : ∀ u : Fin 256, parseUintB 8 (dec3 u.1) = .ok u.1 := by decide +kernel
set_option maxRecDepth 100000 in
theorem byteOf_dec (u : Nat) (h : u < 256) : byteOf (decDigits u) = some u := by
  have e := parse_dec3 ⟨u, h⟩
  unfold byteOf
  rw [dec_dec3 u (by omega)]
  simp only at e
  rw [e]
  show (if decDigits u = dec3 u then some u else none) = some u
  rw [if_pos (dec_dec3 u (by omega))]
set_option maxRecDepth 100000 in
theorem dec3_plain : ∀ u : Fin 256, (∀ c ∈ dec3 u.1, c ≠ 46) ∧ dec3 u.1 ≠ [] ∧ (dec3 u.1).length ≤ 3 := by decide +kernel
set_option maxRecDepth 100000 in
theorem dec_plain (u : Nat) (h : u < 256) : (∀ c ∈ decDigits u, c ≠ 46) ∧ decDigits u ≠ [] ∧ (decDigits u).length ≤ 3 := by
  rw [dec_dec3 u (by omega)]
  exact dec3_plain ⟨u, h⟩
/-! ### Cut at the first point -/
def cut46 (l : List UInt8) : List UInt8 × List UInt8 × Bool := cut l [46]
set_option maxRecDepth 100000 in
theorem index46_cons (c : UInt8) (l : List UInt8) : index (c :: l) [46] = if c = 46 then 0 else if index l [46] = -1 then -1 else index l [46] + 1 := by
  rw [index]
  by_cases h : c = 46
  · subst h; simp
  · rw [if_neg (by simp; exact fun e => h e.symm), if_neg h]
    simp
set_option maxRecDepth 100000 in
theorem cut46_nil : cut46 [] = ([], [], false) := by decide
set_option maxRecDepth 100000 in
theorem cut46_cons (c : UInt8) (l : List UInt8) : cut46 (c :: l) = if c = 46 then ([], l, true) else (c :: (cut46 l).1, (cut46 l).2.1, (cut46 l).2.2) := by
  have hg := index_ge l [46]
  unfold cut46 cut
  rw [index46_cons]
  by_cases h : c = 46
  · simp [h]
  · simp only [if_neg h]
    by_cases hm : index l [46] = -1
    · simp [hm]
    · rw [if_neg hm, if_pos (by omega), if_pos (by omega)]
      have e : (index l [46] + 1).toNat = (index l [46]).toNat + 1 := by omega
      rw [e]
      simp
set_option maxRecDepth 100000 in
theorem cut46_back : ∀ l : List UInt8, if (cut46 l).2.2 = true then (cut46 l).1 ++ 46 :: (cut46 l).2.1 = l else (cut46 l).1 = l ∧ (cut46 l).2.1 = []
  | [] => by simp [cut46_nil]
  | c :: l => by
    rw [cut46_cons]
    by_cases h : c = 46
    · simp [h]
    · have := cut46_back l
      simp only [if_neg h]
      split
      · rename_i ht
        rw [if_pos (by simpa using ht)] at this
        simp [this]
      · rename_i ht
        rw [if_neg (by simpa using ht)] at this
        simp [this]
set_option maxRecDepth 100000 in
theorem cut46_plain : ∀ (l r : List UInt8), (∀ c ∈ l, c ≠ 46) → cut46 (l ++ 46 :: r) = (l, r, true)
  | [], r, _ => by rw [List.nil_append, cut46_cons, if_pos rfl]
  | c :: l, r, h => by
    rw [List.cons_append, cut46_cons, if_neg (h c List.mem_cons_self), cut46_plain l r (fun x hx => h x (List.mem_cons_of_mem _ hx))]
set_option maxRecDepth 100000 in
theorem cut46_none : ∀ (l : List UInt8), (∀ c ∈ l, c ≠ 46) → cut46 l = (l, [], false)
  | [], _ => cut46_nil
  | c :: l, h => by
    rw [cut46_cons, if_neg (h c List.mem_cons_self), cut46_none l (fun x hx => h x (List.mem_cons_of_mem _ hx))]
/-! ### IPv4 -/
def text4 : List Nat → List UInt8
  | [] => []
  | [n] => decDigits n
  | n :: m :: r => decDigits n ++ 46 :: text4 (m :: r)
def parse4 : Nat → List UInt8 → Option (List Nat)
  | 0, _ => some []
  | k + 1, l =>
    match byteOf (cut46 l).1 with
    | none => none
    | some n => if (cut46 l).2.2 = decide (0 < k) then (parse4 k (cut46 l).2.1).map (n :: ·) else none
set_option maxRecDepth 100000 in
theorem parse4_some : ∀ (k : Nat) (l : List UInt8) (ns : List Nat), parse4 (k + 1) l = some ns → ns.length = k + 1 ∧ (∀ n ∈ ns, n < 256) ∧ text4 ns = l
  | 0, l, ns, h => by
    unfold parse4 at h
    split at h
    · cases h
    · rename_i n e
      split at h
      · rename_i e2
        simp [parse4] at h
        subst h
        obtain ⟨h1, h2⟩ := byteOf_some e
        have hc := cut46_back l
        rw [if_neg (by simp [e2])] at hc
        exact ⟨rfl, by simpa using h1, by simp [text4, h2, hc.1]⟩
      · cases h
  | k + 1, l, ns, h => by
    unfold parse4 at h
    split at h
    · cases h
    · rename_i n e
      split at h
      · rename_i e2
        rw [Option.map_eq_some_iff] at h
        obtain ⟨ms, hms, rfl⟩ := h
        obtain ⟨h1, h2⟩ := byteOf_some e
        obtain ⟨g1, g2, g3⟩ := parse4_some k _ ms hms
        have hc := cut46_back l
        rw [if_pos (by simp [e2])] at hc
        refine ⟨by simp [g1], by simpa using ⟨h1, g2⟩, ?_⟩
        match ms, g1 with
        | m :: r, _ => rw [text4, h2, g3, hc]
      · cases h
set_option maxRecDepth 100000 in
theorem parse4_text : ∀ (k : Nat) (ns : List Nat), ns.length = k + 1 → (∀ n ∈ ns, n < 256) → parse4 (k + 1) (text4 ns) = some ns
  | 0, ns, hl, hb => by
    match ns, hl with
    | [n], _ =>
      have hn : n < 256 := hb n List.mem_cons_self
      unfold parse4
      rw [text4, cut46_none _ (dec_plain n hn).1, byteOf_dec n hn]
      simp [parse4]
  | k + 1, ns, hl, hb => by
    match ns, hl with
    | n :: m :: r, hl =>
      have hn : n < 256 := hb n List.mem_cons_self
      unfold parse4
      rw [text4, cut46_plain _ _ (dec_plain n hn).1, byteOf_dec n hn]
      have := parse4_text k (m :: r) (by simpa using hl) (fun x hx => hb x (List.mem_cons_of_mem _ hx))
      simp [this]
def hexs : List UInt8 := [48, 49, 50, 51, 52, 53, 54, 55, 56, 57, 97, 98, 99, 100, 101, 102]
def hx (n : Nat) : UInt8 := hexs.getD n 0
def hv (c : UInt8) : Int := indexByte hexs c
set_option maxRecDepth 100000 in
theorem hv_hx : ∀ n : Fin 16, hv (hx n.1) = (n.1 : Int) := by decide +kernel
def chr6 (bs : List Nat) (j : Nat) : UInt8 :=
  if j % 5 = 4 then 58 else if j % 5 % 2 = 0 then hx (bs.getD (2 * (j / 5) + j % 5 / 2) 0 / 16) else hx (bs.getD (2 * (j / 5) + j % 5 / 2) 0 % 16)
def text6to (bs : List Nat) (n : Nat) : List UInt8 := (List.range n).map (chr6 bs)
def text6 (bs : List Nat) : List UInt8 := text6to bs 39
def at6 (i : Nat) : Nat := 2 * i + i / 2
def ok6 (l : List UInt8) (i : Nat) : Bool :=
  (decide (0 < i) && decide (i % 2 = 0)).not.or (l.getD (at6 i - 1) 0 == 58) && (decide (0 ≤ hv (l.getD (at6 i) 0)) && decide (0 ≤ hv (l.getD (at6 i + 1) 0)))
def val6 (l : List UInt8) (i : Nat) : Nat := (hv (l.getD (at6 i) 0)).toNat * 16 + (hv (l.getD (at6 i + 1) 0)).toNat
def vals6 (l : List UInt8) (n : Nat) : List Nat := (List.range n).map (val6 l)
def parse6 (l : List UInt8) : Option (List Nat) :=
  if l.length = 39 ∧ (List.range 16).all (ok6 l) = true then some (vals6 l 16) else none
set_option maxRecDepth 100000 in
theorem vals6_length (l : List UInt8) (n : Nat) : (vals6 l n).length = n := by simp [vals6]
set_option maxRecDepth 100000 in
theorem vals6_getD (l : List UInt8) (n i : Nat) (h : i < n) : (vals6 l n).getD i 0 = val6 l i := by simp [vals6, List.getD_eq_getElem?_getD, h]
set_option maxRecDepth 100000 in
theorem ok6_mk {l : List UInt8} {i : Nat} (h1 : 0 < i → i % 2 = 0 → l.getD (at6 i - 1) 0 = 58) (h2 : 0 ≤ hv (l.getD (at6 i) 0)) (h3 : 0 ≤ hv (l.getD (at6 i + 1) 0)) : ok6 l i = true := by
  simp only [ok6, Bool.and_eq_true, Bool.or_eq_true, Bool.not_eq_true', Bool.and_eq_false_iff, decide_eq_true_eq, decide_eq_false_iff_not, beq_iff_eq]
  refine ⟨?_, h2, h3⟩
  by_cases a : 0 < i
  · by_cases b : i % 2 = 0
    · exact .inr (h1 a b)
    · exact .inl (.inr b)
  · exact .inl (.inl a)
set_option maxRecDepth 100000 in
theorem text6_length (bs : List Nat) : (text6 bs).length = 39 := by simp [text6, text6to]
set_option maxRecDepth 100000 in
theorem text6_getD (bs : List Nat) (j : Nat) (h : j < 39) : (text6 bs).getD j 0 = chr6 bs j := by simp [text6, text6to, List.getD_eq_getElem?_getD, h]
set_option maxRecDepth 100000 in
theorem at6_even (m : Nat) : at6 (2 * m) = 5 * m := by unfold at6; omega
set_option maxRecDepth 100000 in
theorem at6_odd (m : Nat) : at6 (2 * m + 1) = 5 * m + 2 := by unfold at6; omega
set_option maxRecDepth 100000 in
theorem parity (i : Nat) : (∃ m, i = 2 * m) ∨ ∃ m, i = 2 * m + 1 := by
  rcases Nat.mod_two_eq_zero_or_one i with h | h
  · exact .inl ⟨i / 2, by omega⟩
  · exact .inr ⟨i / 2, by omega⟩
set_option maxRecDepth 100000 in
theorem chr6_hi (bs : List Nat) (i : Nat) : chr6 bs (at6 i) = hx (bs.getD i 0 / 16) := by
  rcases parity i with ⟨m, rfl⟩ | ⟨m, rfl⟩
  · rw [at6_even, chr6, if_neg (by omega), if_pos (by omega), show 2 * (5 * m / 5) + 5 * m % 5 / 2 = 2 * m by omega]
  · rw [at6_odd, chr6, if_neg (by omega), if_pos (by omega), show 2 * ((5 * m + 2) / 5) + (5 * m + 2) % 5 / 2 = 2 * m + 1 by omega]
set_option maxRecDepth 100000 in
theorem chr6_lo (bs : List Nat) (i : Nat) : chr6 bs (at6 i + 1) = hx (bs.getD i 0 % 16) := by
  rcases parity i with ⟨m, rfl⟩ | ⟨m, rfl⟩
  · rw [at6_even, chr6, if_neg (by omega), if_neg (by omega), show 2 * ((5 * m + 1) / 5) + (5 * m + 1) % 5 / 2 = 2 * m by omega]
  · rw [at6_odd, chr6, if_neg (by omega), if_neg (by omega), show 2 * ((5 * m + 2 + 1) / 5) + (5 * m + 2 + 1) % 5 / 2 = 2 * m + 1 by omega]
set_option maxRecDepth 100000 in
theorem chr6_colon (bs : List Nat) (i : Nat) (h0 : 0 < i) (h2 : i % 2 = 0) : chr6 bs (at6 i - 1) = 58 := by
  unfold chr6 at6
  rw [if_pos (by omega)]
set_option maxRecDepth 100000 in
theorem parse6_text (bs : List Nat) (hl : bs.length = 16) (hb : ∀ c ∈ bs, c < 256) : parse6 (text6 bs) = some bs := by
  have hbd : ∀ i, bs.getD i 0 < 256 := fun i => by
    rw [List.getD_eq_getElem?_getD]
    by_cases h : i < bs.length
    · rw [List.getElem?_eq_getElem h, Option.getD_some]; exact hb _ (List.getElem_mem h)
    · rw [List.getElem?_eq_none (by omega)]; decide
  have k1 : ∀ i, i < 16 → hv ((text6 bs).getD (at6 i) 0) = ((bs.getD i 0 / 16 : Nat) : Int) := fun i hi => by
    rw [text6_getD _ _ (by unfold at6; omega), chr6_hi]
    exact hv_hx ⟨_, by have := hbd i; omega⟩
  have k2 : ∀ i, i < 16 → hv ((text6 bs).getD (at6 i + 1) 0) = ((bs.getD i 0 % 16 : Nat) : Int) := fun i hi => by
    rw [text6_getD _ _ (by unfold at6; omega), chr6_lo]
    exact hv_hx ⟨_, by omega⟩
  unfold parse6
  rw [if_pos ⟨text6_length bs, List.all_eq_true.2 fun i hi0 => have hi : i < 16 := List.mem_range.1 hi0; ok6_mk (fun a b => by rw [text6_getD _ _ (by unfold at6; omega)]; exact chr6_colon bs i a b) (by rw [k1 i hi]; omega) (by rw [k2 i hi]; omega)⟩]
  congr 1
  refine ext_getD _ _ 0 (by rw [vals6_length, hl]) fun i h1 => ?_
  rw [vals6_length] at h1
  rw [vals6_getD _ _ _ h1]
  unfold val6
  rw [k1 i h1, k2 i h1]
  have := hbd i
  omega
def parseA (l : List UInt8) : Option (Bool × List Nat) :=
  match parse4 4 l with
  | some ns => some (false, ns ++ List.replicate 12 0)
  | none => (parse6 l).map fun bs => (true, bs)
def textA (v : Bool) (bs : List Nat) : List UInt8 := if v then text6 bs else text4 (bs.take 4)
set_option maxRecDepth 100000 in
theorem text6_no4 (bs : List Nat) : parse4 4 (text6 bs) = none := by
  rcases h : parse4 4 (text6 bs) with _ | ns
  · rfl
  · obtain ⟨h1, h2, h3⟩ := parse4_some 3 _ _ h
    have hl := congrArg List.length h3
    rw [text6_length] at hl
    match ns, h1 with
    | [a, b, c, d], _ =>
      have ha := (dec_plain a (h2 a (by simp))).2.2
      have hb := (dec_plain b (h2 b (by simp))).2.2
      have hc := (dec_plain c (h2 c (by simp))).2.2
      have hd := (dec_plain d (h2 d (by simp))).2.2
      simp [text4] at hl
      omega
set_option maxRecDepth 100000 in
theorem parseA_text (v : Bool) (bs : List Nat) (hl : bs.length = 16) (hb : ∀ c ∈ bs, c < 256) (hv : validA v bs) : parseA (textA v bs) = some (v, bs) := by
  cases v with
  | true =>
    simp only [textA, parseA, if_true]
    rw [text6_no4, parse6_text bs hl hb]
    rfl
  | false =>
    simp only [textA, parseA, Bool.false_eq_true, if_false]
    rw [parse4_text 3 (bs.take 4) (by simp [hl]) (fun n hn => hb n (List.mem_of_mem_take hn))]
    simp only [Option.some.injEq, Prod.mk.injEq, true_and]
    rcases hv with hv | hv
    · cases hv
    · refine List.ext_getElem (by simp [hl]) fun i h1 h2 => ?_
      by_cases hi : i < 4
      · rw [List.getElem_append_left (by simp [hl]; omega)]
        simp
      · have e2 : bs[i] = bs.getD i 0 := by rw [List.getD_eq_getElem?_getD, List.getElem?_eq_getElem h2, Option.getD_some]
        rw [List.getElem_append_right (by simp [hl]; omega), e2, hv i (by omega) (by omega), List.getElem_replicate]
end Go.Proofs.YthkaadcgiplolaaDoor
namespace Go.Proofs.YthkaadcgiplolaaDoor
open Go.RowKit Go.Sort Go.Lib
structure Env (w : World) : Prop where
  tab : Lib.TabIs Tryd.prog w "internal/strconv.uint64pow10" .u64 Lib.pow10Tab
set_option maxRecDepth 100000 in
theorem Env.below {w w' : World} (h : Env w) (hb : Below w.heap.size w w') : Env w' := ⟨Lib.tabBelow_of_tabIs h.tab w' hb⟩
set_option maxRecDepth 100000 in
theorem itoa_any (u : Nat) (hu : u < 9223372036854775808) (w : World) (hE : Env w) :
    Calls Tryd.prog 47 #[.int .i64 u] w fun e w' => e = .returned (.string ⟨(Lib.decDigits u).toArray⟩) ∧ Below w.heap.size w w' := by
  refine (Tryd.strconv_Itoa u (by omega) (by omega) w hE.tab).mono ?_
  rintro e w' ⟨rfl, k, os, rfl⟩
  refine ⟨?_, Lib.below_grow w.heap.size w (Nat.le_refl _) k os⟩
  rw [Lib.itoa_nonneg]
end Go.Proofs.YthkaadcgiplolaaDoor
namespace Go.Proofs.YthkaadcgiplolaaDoor
open Go.RowKit Go.Lib
set_option maxRecDepth 100000 in
theorem Tryd.info5 : (Tryd.prog.info? 5).map (fun i => (i.zero, i.size, i.bytes)) = some (some (.int .u8 0), 1, 1) := by kernel_rfl
set_option maxRecDepth 100000 in
theorem conv_own {w : World} {base n : Nat} {v : Value} {l : List UInt8} (h : w.ownsRow base 5 1 v n (Lib.byteCells l)) (h0 : 0 < n) :
    (convert 28 9 v).run Tryd.prog w = .ok (.string ⟨l.toArray⟩) w := by
  obtain ⟨g, cap, rfl⟩ : ∃ g cap, v = .slice (some ⟨g, 0, none⟩) n cap := by
    rcases h.2 with ⟨_, e⟩ | ⟨g, cap, _, e, _⟩
    · omega
    · exact ⟨g, cap, e⟩
  have hn : n = l.length := by have := h.1; simpa [Lib.byteCells] using this.symm
  have hc := h.cells (g := g) rfl
  have := run_convert_bytes_back (P := Tryd.prog) w 28 9 5 ⟨g, 0, none⟩ cap l Tryd.underlying28 Tryd.underlying5 Tryd.underlying9 (fun j hj => hc j _ (by simp [Lib.byteCells, hj]))
  rw [hn]
  exact this
def pre4 (ns : List Nat) (k : Nat) : List UInt8 := text4 (ns.take k)
set_option maxRecDepth 100000 in
theorem text4_snoc : ∀ (ns : List Nat) (n : Nat), ns ≠ [] → text4 (ns ++ [n]) = text4 ns ++ 46 :: decDigits n
  | [], _, h => absurd rfl h
  | [a], n, _ => by simp [text4]
  | a :: b :: t, n, _ => by
    have := text4_snoc (b :: t) n (by simp)
    simp only [List.cons_append] at this ⊢
    rw [text4, this, text4]
    simp
set_option maxRecDepth 100000 in
theorem pre4_zero (ns : List Nat) : pre4 ns 0 = [] := rfl
set_option maxRecDepth 100000 in
theorem pre4_one (ns : List Nat) (h : 0 < ns.length) : pre4 ns 1 = decDigits (ns.getD 0 0) := by
  match ns, h with
  | a :: t, _ => simp [pre4, text4]
set_option maxRecDepth 100000 in
theorem pre4_succ (ns : List Nat) (k : Nat) (h0 : 0 < k) (hk : k < ns.length) : pre4 ns (k + 1) = pre4 ns k ++ 46 :: decDigits (ns.getD k 0) := by
  unfold pre4
  rw [List.take_succ_eq_append_getElem hk, text4_snoc _ _ (by
    intro e
    rcases List.take_eq_nil_iff.1 e with h | h
    · omega
    · rw [h] at hk; simp at hk)]
  simp [hk]
set_option maxRecDepth 100000 in
theorem pre4_len : ∀ (ns : List Nat) (k : Nat), (∀ n ∈ ns, n < 256) → k ≤ ns.length → (pre4 ns k).length ≤ 4 * k
  | ns, 0, _, _ => by simp [pre4_zero]
  | ns, 1, hb, hk => by
    rw [pre4_one ns hk]
    match ns, hk with
    | a :: t, _ => have := (dec_plain a (hb a (by simp))).2.2; simp; omega
  | ns, k + 2, hb, hk => by
    rw [pre4_succ ns (k + 1) (by omega) (by omega)]
    have h1 := pre4_len ns (k + 1) hb (by omega)
    have h2 := (dec_plain (ns.getD (k + 1) 0) (by rw [List.getD_eq_getElem?_getD, List.getElem?_eq_getElem (by omega)]; exact hb _ (List.getElem_mem _))).2.2
    rw [List.length_append, List.length_cons]
    omega
set_option maxRecDepth 100000 in
set_option maxHeartbeats 400000 in
theorem app_uint (B n u : Nat) (hu : u < 256) (sv : Value) (l : List UInt8) (w : World) (hown : w.ownsRow B 5 1 sv n (Lib.byteCells l)) (hB : B ≤ w.heap.size) (hn : n ≤ 100) (hE : Env w) :
    Calls Tryd.prog 52 #[sv, .int .u64 u, .int .i64 10] w fun e w' => ∃ v' m, e = .returned v' ∧ w'.ownsRow B 5 1 v' m (Lib.byteCells (l ++ decDigits u)) ∧ Below B w w' := by
  have H := Lib.hid (Tryd.internal_strconv_AppendUint_10 B n u (by omega) sv (Lib.byteCells l) w hown hB (by omega) hE.tab)
  go_enter Tryd.func52, Tryd.ntmps52
  go_wp2_with (go_at_call 54; refine H.out.mono ?_; rintro e w' ⟨v', rfl, ho, hb, hk⟩)
  go_ret
  refine ⟨v', n + (decDigits u).length, rfl, ?_, hb⟩
  have e : Lib.byteCells (l ++ decDigits u) = Lib.byteCells l ++ Lib.byteCells (decDigits u) := by simp [Lib.byteCells]
  rw [e]
  exact ho
set_option maxRecDepth 100000 in
set_option maxHeartbeats 2000000 in
theorem numbers_any (a b c d : Nat) (hb : ∀ n ∈ [a, b, c, d], n < 256) (w : World) (hE : Env w) :
    Calls Tryd.prog 50 #[.agg #[.int .u8 a, .int .u8 b, .int .u8 c, .int .u8 d]] w fun e w' => e = .returned (.string ⟨(text4 [a, b, c, d]).toArray⟩) ∧ Below w.heap.size w w' := by
  obtain ⟨i0, hi, hz0, hz1, hz2⟩ := info_parts Tryd.info5
  obtain ⟨ns, hns⟩ : ∃ ns, ns = [a, b, c, d] := ⟨_, rfl⟩
  rw [← hns] at hb ⊢
  have HN := Lib.hid hns
  have HB := Lib.hid hb
  have HE := Lib.hid hE
  have h8 : a < 256 ∧ b < 256 ∧ c < 256 ∧ d < 256 := by
    rw [hns] at hb
    exact ⟨hb a (by simp), hb b (by simp), hb c (by simp), hb d (by simp)⟩
  obtain ⟨ha, hb', hc, hd⟩ := h8
  clear hns hb hE
  go_enter Tryd.func50, Tryd.ntmps50
  go_wp2
  go_loopw [3, 7] (fun out i wr => ∃ k n : Nat, k ≤ 4 ∧ i = .int .i64 k ∧ Hid (wr.ownsRow w.heap.size 5 1 out n (Lib.byteCells (pre4 ns k))) ∧ Hid (Below w.heap.size w wr)) (fun _ i _ => 4 - (RowKit.intOf i).toNat)
  case atStart => exact ⟨0, 0, by omega, rfl, Lib.hid (World.ownsRow_nil _ _ _ _), Lib.hid ((Below.refl _ w).alloc (Nat.le_refl _) _)⟩
  case round =>
    obtain ⟨k, n, hk, rfl, hown, hlow⟩ := hrel
    have hn : n = (pre4 ns k).length := by have := hown.out.1; simpa [Lib.byteCells] using this.symm
    have hle := pre4_len ns k HB.out (by rw [HN.out]; simpa using hk)
    have hn16 : n ≤ 16 := by omega
    clear hn hle
    have h5 : k = 0 ∨ k = 1 ∨ k = 2 ∨ k = 3 ∨ k = 4 := by omega
    rcases h5 with rfl | rfl | rfl | rfl | rfl
    · have hix : ∀ W, (Instr.index 80 (.agg #[.int .u8 (a : Int), .int .u8 (b : Int), .int .u8 (c : Int), .int .u8 (d : Int)]) (.int .i64 0)).run Tryd.prog W = .ok (.int .u8 (a : Int)) W := fun W => by kernel_rfl
      have hlow2 := hlow.out
      have hE1 := HE.out.below (hlow2.mono (Nat.le_refl _))
      have C := Lib.hid (app_uint w.heap.size n a ha _ _ wr hown.out hlow2.size (by omega) hE1)
      clear hlow2 hE1
      go_wp2_with fail
      refine C.out.mono ?_
      rintro e w2 ⟨v2, m2, rfl, ho2, hb2⟩
      have HO := Lib.hid ho2
      have HB2 := Lib.hid (hlow.out.trans hb2)
      clear ho2 hb2 C
      go_wp2
      go_roundw
      case rel => exact ⟨0+1, m2, by omega, by go_num, Lib.hid (by rw [pre4_one ns (by rw [HN.out]; simp), show ns.getD 0 0 = a by rw [HN.out]; rfl]; simpa [pre4_zero] using HO.out), HB2⟩
      case measure => simp [RowKit.intOf]
    · have hix : ∀ W, (Instr.index 80 (.agg #[.int .u8 (a : Int), .int .u8 (b : Int), .int .u8 (c : Int), .int .u8 (d : Int)]) (.int .i64 1)).run Tryd.prog W = .ok (.int .u8 (b : Int)) W := fun W => by kernel_rfl
      have hown2 := hown.out
      have hlow2 := hlow.out
      go_wp2_with (at_builtin; refine wpList_append_own _ rfl _ _ 28 rfl w.heap.size 5 i0 (.int .u8 0) 1 1 Tryd.underlying28 hi hz0 hz1 hz2 rfl (by decide) _ _ _ rfl (hown2.alloc _) ⟨wr.heap.size, 0, none⟩ 1 1 [.int .u8 46] rfl rfl (cell_one_new _ _ _) ?c21 ?c31 ?c41 ?c51 ?_)
      case c21 => intro u hu; simp at hu; subst hu; rfl
      case c31 => unfold maxLen; omega
      case c41 => omega
      case c51 => have := hlow2.size; simp; omega
      intro v1 w1 hown1 hgrow _
      have hlow1 := (hlow2.alloc hlow2.size (Obj.cells #[Value.int IntKind.u8 46] 5)).grown hgrow (by have := hlow2.size; simp; omega) (fun k hk => (hown2.lt k hk).1)
      have hE1 := HE.out.below (hlow1.mono (Nat.le_refl _))
      have hown3 : w1.ownsRow w.heap.size 5 1 v1 (n + 1) (Lib.byteCells (pre4 ns 1 ++ [46])) := by simpa [Lib.byteCells] using hown1
      have C := Lib.hid (app_uint w.heap.size (n + 1) b hb' v1 _ w1 hown3 hlow1.size (by omega) hE1)
      have HL1 := Lib.hid hlow1
      clear hown2 hlow2 hown1 hgrow hlow1 hE1 hown3
      go_wp2_with fail
      refine C.out.mono ?_
      rintro e w2 ⟨v2, m2, rfl, ho2, hb2⟩
      have HO := Lib.hid ho2
      have HB2 := Lib.hid (HL1.out.trans hb2)
      clear ho2 hb2 C
      go_wp2
      go_roundw
      case rel => exact ⟨1+1, m2, by omega, by go_num, Lib.hid (by rw [pre4_succ ns 1 (by omega) (by rw [HN.out]; simp), show ns.getD 1 0 = b by rw [HN.out]; rfl]; simpa using HO.out), HB2⟩
      case measure => simp [RowKit.intOf]
    · have hix : ∀ W, (Instr.index 80 (.agg #[.int .u8 (a : Int), .int .u8 (b : Int), .int .u8 (c : Int), .int .u8 (d : Int)]) (.int .i64 2)).run Tryd.prog W = .ok (.int .u8 (c : Int)) W := fun W => by kernel_rfl
      have hown2 := hown.out
      have hlow2 := hlow.out
      go_wp2_with (at_builtin; refine wpList_append_own _ rfl _ _ 28 rfl w.heap.size 5 i0 (.int .u8 0) 1 1 Tryd.underlying28 hi hz0 hz1 hz2 rfl (by decide) _ _ _ rfl (hown2.alloc _) ⟨wr.heap.size, 0, none⟩ 1 1 [.int .u8 46] rfl rfl (cell_one_new _ _ _) ?c22 ?c32 ?c42 ?c52 ?_)
      case c22 => intro u hu; simp at hu; subst hu; rfl
      case c32 => unfold maxLen; omega
      case c42 => omega
      case c52 => have := hlow2.size; simp; omega
      intro v1 w1 hown1 hgrow _
      have hlow1 := (hlow2.alloc hlow2.size (Obj.cells #[Value.int IntKind.u8 46] 5)).grown hgrow (by have := hlow2.size; simp; omega) (fun k hk => (hown2.lt k hk).1)
      have hE1 := HE.out.below (hlow1.mono (Nat.le_refl _))
      have hown3 : w1.ownsRow w.heap.size 5 1 v1 (n + 1) (Lib.byteCells (pre4 ns 2 ++ [46])) := by simpa [Lib.byteCells] using hown1
      have C := Lib.hid (app_uint w.heap.size (n + 1) c hc v1 _ w1 hown3 hlow1.size (by omega) hE1)
      have HL1 := Lib.hid hlow1
      clear hown2 hlow2 hown1 hgrow hlow1 hE1 hown3
      go_wp2_with fail
      refine C.out.mono ?_
      rintro e w2 ⟨v2, m2, rfl, ho2, hb2⟩
      have HO := Lib.hid ho2
      have HB2 := Lib.hid (HL1.out.trans hb2)
      clear ho2 hb2 C
      go_wp2
      go_roundw
      case rel => exact ⟨2+1, m2, by omega, by go_num, Lib.hid (by rw [pre4_succ ns 2 (by omega) (by rw [HN.out]; simp), show ns.getD 2 0 = c by rw [HN.out]; rfl]; simpa using HO.out), HB2⟩
      case measure => simp [RowKit.intOf]
    · have hix : ∀ W, (Instr.index 80 (.agg #[.int .u8 (a : Int), .int .u8 (b : Int), .int .u8 (c : Int), .int .u8 (d : Int)]) (.int .i64 3)).run Tryd.prog W = .ok (.int .u8 (d : Int)) W := fun W => by kernel_rfl
      have hown2 := hown.out
      have hlow2 := hlow.out
      go_wp2_with (at_builtin; refine wpList_append_own _ rfl _ _ 28 rfl w.heap.size 5 i0 (.int .u8 0) 1 1 Tryd.underlying28 hi hz0 hz1 hz2 rfl (by decide) _ _ _ rfl (hown2.alloc _) ⟨wr.heap.size, 0, none⟩ 1 1 [.int .u8 46] rfl rfl (cell_one_new _ _ _) ?c23 ?c33 ?c43 ?c53 ?_)
      case c23 => intro u hu; simp at hu; subst hu; rfl
      case c33 => unfold maxLen; omega
      case c43 => omega
      case c53 => have := hlow2.size; simp; omega
      intro v1 w1 hown1 hgrow _
      have hlow1 := (hlow2.alloc hlow2.size (Obj.cells #[Value.int IntKind.u8 46] 5)).grown hgrow (by have := hlow2.size; simp; omega) (fun k hk => (hown2.lt k hk).1)
      have hE1 := HE.out.below (hlow1.mono (Nat.le_refl _))
      have hown3 : w1.ownsRow w.heap.size 5 1 v1 (n + 1) (Lib.byteCells (pre4 ns 3 ++ [46])) := by simpa [Lib.byteCells] using hown1
      have C := Lib.hid (app_uint w.heap.size (n + 1) d hd v1 _ w1 hown3 hlow1.size (by omega) hE1)
      have HL1 := Lib.hid hlow1
      clear hown2 hlow2 hown1 hgrow hlow1 hE1 hown3
      go_wp2_with fail
      refine C.out.mono ?_
      rintro e w2 ⟨v2, m2, rfl, ho2, hb2⟩
      have HO := Lib.hid ho2
      have HB2 := Lib.hid (HL1.out.trans hb2)
      clear ho2 hb2 C
      go_wp2
      go_roundw
      case rel => exact ⟨3+1, m2, by omega, by go_num, Lib.hid (by rw [pre4_succ ns 3 (by omega) (by rw [HN.out]; simp), show ns.getD 3 0 = d by rw [HN.out]; rfl]; simpa using HO.out), HB2⟩
      case measure => simp [RowKit.intOf]
    · have hown2 := hown.out
      have hlow2 := HB
      have hp : pre4 ns 4 = text4 ns := by unfold pre4; rw [List.take_of_length_le (by rw [HN.out]; simp)]
      rw [hp] at hown2
      have h0 : 0 < n := by
        have h1 := hown2.1
        rw [HN.out] at h1
        simp [Lib.byteCells, text4] at h1
        omega
      have hcv := conv_own hown2 h0
      have HP := Lib.hid hp
      clear hp hown2 h0 hlow2
      go_wp2
      go_ret
      exact ⟨rfl, hlow.out⟩
end Go.Proofs.YthkaadcgiplolaaDoor
namespace Go.Proofs.YthkaadcgiplolaaDoor
open Go.RowKit Go.Lib
set_option maxRecDepth 100000 in
theorem Blk.grown {w w' : World} {g : Nat} {t : TypeId} {cs : Array Value} (h : Blk w g t cs) {row : Option Nat} (hb : w.grownBy w' row) (hg : some g ≠ row) : Blk w' g t cs := (hb.block g h.lt hg).trans h
set_option maxRecDepth 100000 in
theorem ix16 (b0 b1 b2 b3 b4 b5 b6 b7 b8 b9 b10 b11 b12 b13 b14 b15 : Nat) (k : Nat) (hk : k < 16) (W : World) :
    (Instr.index 22 (.agg #[.int .u8 (b0 : Int), .int .u8 (b1 : Int), .int .u8 (b2 : Int), .int .u8 (b3 : Int), .int .u8 (b4 : Int), .int .u8 (b5 : Int), .int .u8 (b6 : Int), .int .u8 (b7 : Int), .int .u8 (b8 : Int), .int .u8 (b9 : Int), .int .u8 (b10 : Int), .int .u8 (b11 : Int), .int .u8 (b12 : Int), .int .u8 (b13 : Int), .int .u8 (b14 : Int), .int .u8 (b15 : Int)]) (.int .i64 (k : Int))).run Tryd.prog W
      = .ok (.int .u8 (([b0, b1, b2, b3, b4, b5, b6, b7, b8, b9, b10, b11, b12, b13, b14, b15].getD k 0 : Nat) : Int)) W := by
  have h : k = 0 ∨ k = 1 ∨ k = 2 ∨ k = 3 ∨ k = 4 ∨ k = 5 ∨ k = 6 ∨ k = 7 ∨ k = 8 ∨ k = 9 ∨ k = 10 ∨ k = 11 ∨ k = 12 ∨ k = 13 ∨ k = 14 ∨ k = 15 := by omega
  rcases h with rfl | rfl | rfl | rfl | rfl | rfl | rfl | rfl | rfl | rfl | rfl | rfl | rfl | rfl | rfl | rfl <;> rfl
def ln6 : Nat → Nat
  | 0 => 0
  | k + 1 => 2 * (k + 1) + k / 2
set_option maxRecDepth 100000 in
theorem ln6_succ (k : Nat) : ln6 (k + 1) = 2 * (k + 1) + k / 2 := rfl
set_option maxRecDepth 100000 in
theorem getD_small (bs : List Nat) (h : ∀ c ∈ bs, c < 256) (i : Nat) : bs.getD i 0 < 256 := by
  rw [List.getD_eq_getElem?_getD]
  by_cases hi : i < bs.length
  · rw [List.getElem?_eq_getElem hi, Option.getD_some]; exact h _ (List.getElem_mem hi)
  · rw [List.getElem?_eq_none (by omega)]; decide
set_option maxRecDepth 100000 in
theorem and15 : ∀ x : Fin 256, bits .and .u8 (x.1 : Int) 15 = ((x.1 % 16 : Nat) : Int) := by decide +kernel
set_option maxRecDepth 100000 in
theorem ln6_at (k : Nat) (h : k = 0 ∨ k % 2 ≠ 0) : ln6 k = at6 k := by
  cases k with
  | zero => rfl
  | succ k => rw [ln6_succ]; unfold at6; omega
set_option maxRecDepth 100000 in
theorem ln6_colon (k : Nat) (h0 : 0 < k) (h : k % 2 = 0) : ln6 k + 1 = at6 k := by
  cases k with
  | zero => omega
  | succ k => rw [ln6_succ]; unfold at6; omega
set_option maxRecDepth 100000 in
theorem ln6_next (k : Nat) : ln6 (k + 1) = at6 k + 2 := by rw [ln6_succ]; unfold at6; omega
set_option maxRecDepth 100000 in
theorem ln6_le (k : Nat) (h : k ≤ 16) : ln6 k ≤ 39 := by
  cases k with
  | zero => simp [ln6]
  | succ k => rw [ln6_succ]; omega
set_option maxRecDepth 100000 in
theorem text6to_two (bs : List Nat) (k : Nat) : text6to bs (at6 k + 2) = text6to bs (at6 k) ++ [hx (bs.getD k 0 / 16), hx (bs.getD k 0 % 16)] := by
  unfold text6to
  rw [show at6 k + 2 = at6 k + 1 + 1 from rfl, List.range_succ, List.range_succ]
  simp [chr6_hi, chr6_lo]
set_option maxRecDepth 100000 in
theorem text6to_colon (bs : List Nat) (k : Nat) (h0 : 0 < k) (h : k % 2 = 0) : text6to bs (at6 k) = text6to bs (ln6 k) ++ [58] := by
  have e := ln6_colon k h0 h
  rw [← e]
  unfold text6to
  rw [List.range_succ, List.map_append, List.map_singleton, show ln6 k = at6 k - 1 by omega, chr6_colon bs k h0 h]
set_option maxRecDepth 100000 in
theorem at6_le (k : Nat) (h : k < 16) : at6 k ≤ 37 := by unfold at6; omega
set_option maxRecDepth 100000 in
theorem cells_two (w : World) (t : TypeId) (u v : Value) : ∀ j x, [u, v][j]? = some x → (w.alloc (.cells #[u, v] t)).cell? ((⟨w.heap.size, 0, none⟩ : Addr).add j) = some x := by
  intro j x hx
  rw [Addr.add_mid, Nat.zero_add, (Blk.new w t #[u, v]).cell j]
  simpa using hx
set_option maxRecDepth 100000 in
theorem own_next {w : World} {base k x y z : Nat} {v : Value} {bs : List Nat} (hx' : x = bs.getD k 0) (hy : y = x / 16) (hz : z = x % 16)
    (h : w.ownsRow base 5 1 v (at6 k + 2) (Lib.byteCells (text6to bs (at6 k)) ++ [.int .u8 ((hx y).toNat : Int), .int .u8 ((hx z).toNat : Int)])) :
    w.ownsRow base 5 1 v (ln6 (k + 1)) (Lib.byteCells (text6to bs (ln6 (k + 1)))) := by
  rw [ln6_next, text6to_two, ← hx', ← hy, ← hz]
  simpa [Lib.byteCells] using h
set_option maxRecDepth 100000 in
theorem sixteen (y : Nat) (h : y < 16) : y = 0 ∨ y = 1 ∨ y = 2 ∨ y = 3 ∨ y = 4 ∨ y = 5 ∨ y = 6 ∨ y = 7 ∨ y = 8 ∨ y = 9 ∨ y = 10 ∨ y = 11 ∨ y = 12 ∨ y = 13 ∨ y = 14 ∨ y = 15 := by omega
set_option maxRecDepth 100000 in
set_option maxHeartbeats 2000000 in
theorem groups_any (b0 b1 b2 b3 b4 b5 b6 b7 b8 b9 b10 b11 b12 b13 b14 b15 : Nat) (hb : ∀ n ∈ [b0, b1, b2, b3, b4, b5, b6, b7, b8, b9, b10, b11, b12, b13, b14, b15], n < 256) (w : World) :
    Calls Tryd.prog 49 #[.agg #[.int .u8 (b0 : Int), .int .u8 (b1 : Int), .int .u8 (b2 : Int), .int .u8 (b3 : Int), .int .u8 (b4 : Int), .int .u8 (b5 : Int), .int .u8 (b6 : Int), .int .u8 (b7 : Int), .int .u8 (b8 : Int), .int .u8 (b9 : Int), .int .u8 (b10 : Int), .int .u8 (b11 : Int), .int .u8 (b12 : Int), .int .u8 (b13 : Int), .int .u8 (b14 : Int), .int .u8 (b15 : Int)]] w fun e w' =>
      e = .returned (.string ⟨(text6 [b0, b1, b2, b3, b4, b5, b6, b7, b8, b9, b10, b11, b12, b13, b14, b15]).toArray⟩) ∧ Below w.heap.size w w' := by
  obtain ⟨i0, hi, hz0, hz1, hz2⟩ := info_parts Tryd.info5
  have hix := ix16 b0 b1 b2 b3 b4 b5 b6 b7 b8 b9 b10 b11 b12 b13 b14 b15
  obtain ⟨bs, hbs⟩ : ∃ bs, bs = [b0, b1, b2, b3, b4, b5, b6, b7, b8, b9, b10, b11, b12, b13, b14, b15] := ⟨_, rfl⟩
  rw [← hbs] at hb ⊢ hix
  have HN := Lib.hid hbs
  have HB := Lib.hid hb
  have HIX := Lib.hid hix
  clear hbs hb hix
  go_enter Tryd.func49, Tryd.ntmps49
  go_wp2_with (at_make; refine wpList_make_own _ rfl _ _ 28 rfl w.heap.size 5 i0 (.int .u8 0) 1 Tryd.underlying28 hi hz0 hz1 .i64 .i64 39 39 rfl rfl rfl ?m1 ?m2 ?m3 ?_)
  case m1 => omega
  case m2 => unfold maxLen; omega
  case m3 => simp
  intro W0 hown0 hgrow0
  have hlow0 := ((Below.refl w.heap.size w).alloc (Nat.le_refl _) _).grown hgrow0 (by simp) (fun k hk => by cases hk)
  have hblk := (Blk.new w 22 #[.int .u8 (b0 : Int), .int .u8 (b1 : Int), .int .u8 (b2 : Int), .int .u8 (b3 : Int), .int .u8 (b4 : Int), .int .u8 (b5 : Int), .int .u8 (b6 : Int), .int .u8 (b7 : Int), .int .u8 (b8 : Int), .int .u8 (b9 : Int), .int .u8 (b10 : Int), .int .u8 (b11 : Int), .int .u8 (b12 : Int), .int .u8 (b13 : Int), .int .u8 (b14 : Int), .int .u8 (b15 : Int)]).grown hgrow0 (by simp)
  have HBK := Lib.hid hblk
  have HO0 := Lib.hid hown0
  have HL0 := Lib.hid hlow0
  clear hown0 hgrow0 hlow0 hblk
  go_wp2_with ((refine wpList_blk_load (op := ⟨some 7, .load 22 (.tmp 1), _, _, _, _⟩) rfl 22 (.tmp 1) rfl w.heap.size (by rfl) _ HBK.out Tryd.underlying22 rfl (by kernel_rfl) ?_))
  go_loopw [3, 8] (fun out i wr => ∃ k : Nat, k ≤ 16 ∧ i = .int .i64 k ∧ Hid (wr.ownsRow w.heap.size 5 1 out (ln6 k) (Lib.byteCells (text6to bs (ln6 k)))) ∧ Hid (Below w.heap.size w wr)) (fun _ i _ => 16 - (RowKit.intOf i).toNat)
  case atStart => exact ⟨0, by omega, rfl, Lib.hid (by simpa [ln6, text6to, Lib.byteCells] using HO0.out), HL0⟩
  case round =>
    obtain ⟨k, hk, rfl, hown, hlow⟩ := hrel
    by_cases hlt : k < 16
    · have hxi := HIX.out k hlt
      obtain ⟨x, hxx⟩ : ∃ x, x = bs.getD k 0 := ⟨_, rfl⟩
      rw [← hxx] at hxi
      have hx8 : x < 256 := by rw [hxx]; exact getD_small bs HB.out k
      have HX := Lib.hid hxx
      clear hxx
      obtain ⟨y, hy⟩ : ∃ y, y = x / 16 := ⟨_, rfl⟩
      obtain ⟨z, hz⟩ : ∃ z, z = x % 16 := ⟨_, rfl⟩
      have hy16 : y < 16 := by omega
      have hz16 : z < 16 := by omega
      have hyi : (x : Int) / 16 = (y : Int) := by omega
      have hzi : bits .and .u8 (x : Int) 15 = (z : Int) := by rw [hz]; exact and15 ⟨x, hx8⟩
      have HY := Lib.hid hy
      have HZ := Lib.hid hz
      clear hy hz
      have hlen := ln6_le k hk
      by_cases h1 : 0 < k ∧ k % 2 = 0
      · have d0 : decide ((0 : Int) < (k : Int)) = true := decide_eq_true (by omega)
        have d1 : ((k : Int) % 2 == 0) = true := beq_iff_eq.2 (by omega)
        have h0' : 0 < k := h1.1
        have hown2 := hown.out
        have hlow2 := hlow.out
        have HC := Lib.hid (And.intro (text6to_colon bs k h1.1 h1.2) (ln6_colon k h1.1 h1.2))
        clear h1
        go_wp2_with (at_builtin; refine wpList_append_own _ rfl (.tmp 19) (.tmp 20) 28 rfl w.heap.size 5 i0 (.int .u8 0) 1 1 Tryd.underlying28 hi hz0 hz1 hz2 rfl (by decide) _ _ _ rfl (hown2.alloc _) ⟨wr.heap.size, 0, none⟩ 1 1 [.int .u8 58] rfl rfl (cell_one_new _ _ _) ?c2 ?c3 ?c4 ?c5 ?_)
        case c2 => intro u hu; simp at hu; subst hu; rfl
        case c3 => unfold maxLen; omega
        case c4 => omega
        case c5 => have := hlow2.size; simp; omega
        intro v1 w1 hown1 hgrow _
        have hlow1 := (hlow2.alloc hlow2.size (Obj.cells #[Value.int IntKind.u8 58] 5)).grown hgrow (by have := hlow2.size; simp; omega) (fun k hk => (hown2.lt k hk).1)
        have hown3 : w1.ownsRow w.heap.size 5 1 v1 (at6 k) (Lib.byteCells (text6to bs (at6 k))) := by
          rw [HC.out.1, ← HC.out.2]
          simpa [Lib.byteCells] using hown1
        have HL1 := Lib.hid hlow1
        have HO1 := Lib.hid hown3
        clear hown2 hlow2 hown1 hgrow hlow1 hown3
        go_wp2_with fail
        refine wp_region_held (S := fun _ => True) (by kernel_rfl) ?_
        refine tkA 0 (?_) ?_ trivial ?_
        rotate_left
        · (intro w1 _; go_simp; try with_reducible rfl)
        try simp only [Act.put, tS1, tS2, tS3]
        refine tkA 1 (?_) ?_ trivial ?_
        rotate_left
        · (intro w1 _; go_simp; try with_reducible rfl)
        try simp only [Act.put, tS1, tS2, tS3]
        refine tkA 2 (.int .u8 (y : Int)) ?_ trivial ?_
        · (intro w1 _; go_simp; try with_reducible rfl)
        try simp only [Act.put, tS1, tS2, tS3]
        refine tkA 3 (.int .u8 ((hx y).toNat : Int)) ?_ trivial ?_
        · (intro w1 _; rcases sixteen y (by assumption) with rfl | rfl | rfl | rfl | rfl | rfl | rfl | rfl | rfl | rfl | rfl | rfl | rfl | rfl | rfl | rfl <;> rfl)
        try simp only [Act.put, tS1, tS2, tS3]
        refine tkA 4 (?_) ?_ trivial ?_
        rotate_left
        · (intro w1 _; go_simp; try with_reducible rfl)
        try simp only [Act.put, tS1, tS2, tS3]
        refine tkA 5 (.int .u8 (z : Int)) ?_ trivial ?_
        · (intro w1 _; go_simp; try with_reducible rfl)
        try simp only [Act.put, tS1, tS2, tS3]
        refine tkA 6 (.int .u8 ((hx z).toNat : Int)) ?_ trivial ?_
        · (intro w1 _; rcases sixteen z (by assumption) with rfl | rfl | rfl | rfl | rfl | rfl | rfl | rfl | rfl | rfl | rfl | rfl | rfl | rfl | rfl | rfl <;> rfl)
        try simp only [Act.put, tS1, tS2, tS3]
        refine tkO 7 (fun K hK => ?_)
        go_simp
        refine hK.out _ _ trivial (fun _ => ?_)
        clear hK K
        try simp only [Act.put, tS1, tS2, tS3]
        refine tkO 8 (fun K hK => ?_)
        rw [if_pos (by rfl)]
        refine wp_append_own _ (.tmp 22) (.tmp 29) 28 rfl w.heap.size 5 i0 (.int .u8 0) 1 1 Tryd.underlying28 hi hz0 hz1 hz2 rfl (by decide) _ (at6 k) (Lib.byteCells (text6to bs (at6 k))) rfl (World.ownsRow.alloc (show World.ownsRow w1.drew _ _ _ _ _ _ from HO1.out) _) ⟨w1.heap.size, 0, none⟩ 2 2 [.int .u8 ((hx y).toNat : Int), .int .u8 ((hx z).toNat : Int)] rfl rfl (cells_two _ _ _ _) (by intro u hu; simp at hu; rcases hu with rfl | rfl <;> rfl) (by have := at6_le k hlt; unfold maxLen; omega) (by have := at6_le k hlt; omega) (by have := HL1.out.size; simp; omega) ?_
        intro v' w' ho' hg' _
        have hlow' := (((show Below w.heap.size w w1.drew from HL1.out.drew)).alloc (show w.heap.size ≤ w1.drew.heap.size from HL1.out.size) (Obj.cells #[.int .u8 ((hx y).toNat : Int), .int .u8 ((hx z).toNat : Int)] 5)).grown hg' (by have := HL1.out.size; simp; omega) (fun k' hk' => (HO1.out.lt k' hk').1)
        have HO' := Lib.hid ho'
        have HL' := Lib.hid hlow'
        clear ho' hg' hlow'
        refine hK.out _ _ trivial (fun _ => ?_)
        clear hK K
        try simp only [Act.put, tS1, tS2, tS3]
        refine tkA 9 (?_) ?_ trivial ?_
        rotate_left
        · (intro w1 _; go_simp; try with_reducible rfl)
        try simp only [Act.put, tS1, tS2, tS3]
        refine wpAnyH_done (by kernel_rfl) ?_ _
        go_wp2
        go_roundw
        case rel => exact ⟨k + 1, Nat.succ_le_of_lt hlt, by go_num, Lib.hid (own_next HX.out HY.out HZ.out HO'.out), HL'⟩
        case measure => simp [RowKit.intOf]; omega
      · have hcase : (k = 0 ∨ k % 2 ≠ 0) := by omega
        have hown2 := hown.out
        rw [ln6_at k hcase] at hown2
        have HO1 := Lib.hid hown2
        clear hown2
        by_cases h0 : k = 0
        · have d0 : decide ((0 : Int) < (k : Int)) = false := decide_eq_false (by omega)
          have h0' : ¬ 0 < k := by omega
          clear h1 hcase h0
          go_wp2_with fail
          refine wp_region_held (S := fun _ => True) (by kernel_rfl) ?_
          refine tkA 0 (?_) ?_ trivial ?_
          rotate_left
          · (intro w1 _; go_simp; try with_reducible rfl)
          try simp only [Act.put, tS1, tS2, tS3]
          refine tkA 1 (?_) ?_ trivial ?_
          rotate_left
          · (intro w1 _; go_simp; try with_reducible rfl)
          try simp only [Act.put, tS1, tS2, tS3]
          refine tkA 2 (.int .u8 (y : Int)) ?_ trivial ?_
          · (intro w1 _; go_simp; try with_reducible rfl)
          try simp only [Act.put, tS1, tS2, tS3]
          refine tkA 3 (.int .u8 ((hx y).toNat : Int)) ?_ trivial ?_
          · (intro w1 _; rcases sixteen y (by assumption) with rfl | rfl | rfl | rfl | rfl | rfl | rfl | rfl | rfl | rfl | rfl | rfl | rfl | rfl | rfl | rfl <;> rfl)
          try simp only [Act.put, tS1, tS2, tS3]
          refine tkA 4 (?_) ?_ trivial ?_
          rotate_left
          · (intro w1 _; go_simp; try with_reducible rfl)
          try simp only [Act.put, tS1, tS2, tS3]
          refine tkA 5 (.int .u8 (z : Int)) ?_ trivial ?_
          · (intro w1 _; go_simp; try with_reducible rfl)
          try simp only [Act.put, tS1, tS2, tS3]
          refine tkA 6 (.int .u8 ((hx z).toNat : Int)) ?_ trivial ?_
          · (intro w1 _; rcases sixteen z (by assumption) with rfl | rfl | rfl | rfl | rfl | rfl | rfl | rfl | rfl | rfl | rfl | rfl | rfl | rfl | rfl | rfl <;> rfl)
          try simp only [Act.put, tS1, tS2, tS3]
          refine tkO 7 (fun K hK => ?_)
          go_simp
          refine hK.out _ _ trivial (fun _ => ?_)
          clear hK K
          try simp only [Act.put, tS1, tS2, tS3]
          refine tkO 8 (fun K hK => ?_)
          rw [if_pos (by rfl)]
          refine wp_append_own _ (.tmp 22) (.tmp 29) 28 rfl w.heap.size 5 i0 (.int .u8 0) 1 1 Tryd.underlying28 hi hz0 hz1 hz2 rfl (by decide) _ (at6 k) (Lib.byteCells (text6to bs (at6 k))) rfl (World.ownsRow.alloc (show World.ownsRow wr.drew _ _ _ _ _ _ from HO1.out) _) ⟨wr.heap.size, 0, none⟩ 2 2 [.int .u8 ((hx y).toNat : Int), .int .u8 ((hx z).toNat : Int)] rfl rfl (cells_two _ _ _ _) (by intro u hu; simp at hu; rcases hu with rfl | rfl <;> rfl) (by have := at6_le k hlt; unfold maxLen; omega) (by have := at6_le k hlt; omega) (by have := hlow.out.size; simp; omega) ?_
          intro v' w' ho' hg' _
          have hlow' := (((show Below w.heap.size w wr.drew from hlow.out.drew)).alloc (show w.heap.size ≤ wr.drew.heap.size from hlow.out.size) (Obj.cells #[.int .u8 ((hx y).toNat : Int), .int .u8 ((hx z).toNat : Int)] 5)).grown hg' (by have := hlow.out.size; simp; omega) (fun k' hk' => (HO1.out.lt k' hk').1)
          have HO' := Lib.hid ho'
          have HL' := Lib.hid hlow'
          clear ho' hg' hlow'
          refine hK.out _ _ trivial (fun _ => ?_)
          clear hK K
          try simp only [Act.put, tS1, tS2, tS3]
          refine tkA 9 (?_) ?_ trivial ?_
          rotate_left
          · (intro w1 _; go_simp; try with_reducible rfl)
          try simp only [Act.put, tS1, tS2, tS3]
          refine wpAnyH_done (by kernel_rfl) ?_ _
          go_wp2
          go_roundw
          case rel => exact ⟨k + 1, Nat.succ_le_of_lt hlt, by go_num, Lib.hid (own_next HX.out HY.out HZ.out HO'.out), HL'⟩
          case measure => simp [RowKit.intOf]; omega
        · have d0 : decide ((0 : Int) < (k : Int)) = true := decide_eq_true (by omega)
          have h0' : 0 < k := by omega
          have d1 : ((k : Int) % 2 == 0) = false := beq_eq_false_iff_ne.2 (by omega)
          clear h1 hcase h0
          go_wp2_with fail
          refine wp_region_held (S := fun _ => True) (by kernel_rfl) ?_
          refine tkA 0 (?_) ?_ trivial ?_
          rotate_left
          · (intro w1 _; go_simp; try with_reducible rfl)
          try simp only [Act.put, tS1, tS2, tS3]
          refine tkA 1 (?_) ?_ trivial ?_
          rotate_left
          · (intro w1 _; go_simp; try with_reducible rfl)
          try simp only [Act.put, tS1, tS2, tS3]
          refine tkA 2 (.int .u8 (y : Int)) ?_ trivial ?_
          · (intro w1 _; go_simp; try with_reducible rfl)
          try simp only [Act.put, tS1, tS2, tS3]
          refine tkA 3 (.int .u8 ((hx y).toNat : Int)) ?_ trivial ?_
          · (intro w1 _; rcases sixteen y (by assumption) with rfl | rfl | rfl | rfl | rfl | rfl | rfl | rfl | rfl | rfl | rfl | rfl | rfl | rfl | rfl | rfl <;> rfl)
          try simp only [Act.put, tS1, tS2, tS3]
          refine tkA 4 (?_) ?_ trivial ?_
          rotate_left
          · (intro w1 _; go_simp; try with_reducible rfl)
          try simp only [Act.put, tS1, tS2, tS3]
          refine tkA 5 (.int .u8 (z : Int)) ?_ trivial ?_
          · (intro w1 _; go_simp; try with_reducible rfl)
          try simp only [Act.put, tS1, tS2, tS3]
          refine tkA 6 (.int .u8 ((hx z).toNat : Int)) ?_ trivial ?_
          · (intro w1 _; rcases sixteen z (by assumption) with rfl | rfl | rfl | rfl | rfl | rfl | rfl | rfl | rfl | rfl | rfl | rfl | rfl | rfl | rfl | rfl <;> rfl)
          try simp only [Act.put, tS1, tS2, tS3]
          refine tkO 7 (fun K hK => ?_)
          go_simp
          refine hK.out _ _ trivial (fun _ => ?_)
          clear hK K
          try simp only [Act.put, tS1, tS2, tS3]
          refine tkO 8 (fun K hK => ?_)
          rw [if_pos (by rfl)]
          refine wp_append_own _ (.tmp 22) (.tmp 29) 28 rfl w.heap.size 5 i0 (.int .u8 0) 1 1 Tryd.underlying28 hi hz0 hz1 hz2 rfl (by decide) _ (at6 k) (Lib.byteCells (text6to bs (at6 k))) rfl (World.ownsRow.alloc (show World.ownsRow wr.drew _ _ _ _ _ _ from HO1.out) _) ⟨wr.heap.size, 0, none⟩ 2 2 [.int .u8 ((hx y).toNat : Int), .int .u8 ((hx z).toNat : Int)] rfl rfl (cells_two _ _ _ _) (by intro u hu; simp at hu; rcases hu with rfl | rfl <;> rfl) (by have := at6_le k hlt; unfold maxLen; omega) (by have := at6_le k hlt; omega) (by have := hlow.out.size; simp; omega) ?_
          intro v' w' ho' hg' _
          have hlow' := (((show Below w.heap.size w wr.drew from hlow.out.drew)).alloc (show w.heap.size ≤ wr.drew.heap.size from hlow.out.size) (Obj.cells #[.int .u8 ((hx y).toNat : Int), .int .u8 ((hx z).toNat : Int)] 5)).grown hg' (by have := hlow.out.size; simp; omega) (fun k' hk' => (HO1.out.lt k' hk').1)
          have HO' := Lib.hid ho'
          have HL' := Lib.hid hlow'
          clear ho' hg' hlow'
          refine hK.out _ _ trivial (fun _ => ?_)
          clear hK K
          try simp only [Act.put, tS1, tS2, tS3]
          refine tkA 9 (?_) ?_ trivial ?_
          rotate_left
          · (intro w1 _; go_simp; try with_reducible rfl)
          try simp only [Act.put, tS1, tS2, tS3]
          refine wpAnyH_done (by kernel_rfl) ?_ _
          go_wp2
          go_roundw
          case rel => exact ⟨k + 1, Nat.succ_le_of_lt hlt, by go_num, Lib.hid (own_next HX.out HY.out HZ.out HO'.out), HL'⟩
          case measure => simp [RowKit.intOf]; omega
    · obtain rfl : k = 16 := by omega
      have hown2 := hown.out
      have hcv := conv_own (l := text6 bs) hown2 (by decide)
      clear hown2
      go_wp2
      go_ret
      exact ⟨rfl, hlow.out⟩
end Go.Proofs.YthkaadcgiplolaaDoor
namespace Go.Proofs.YthkaadcgiplolaaDoor
open Go.RowKit Go.Lib
set_option maxRecDepth 100000 in
theorem sta4 (g : Nat) (W : World) : (Instr.arrayAt 80 (.slice (some ⟨g, 1, none⟩) 4 16)).run Tryd.prog W = .ok (.pointer (some ⟨g, 1, none⟩)) W := by rfl
set_option maxRecDepth 100000 in
set_option maxHeartbeats 1000000 in
theorem text_six (b0 b1 b2 b3 b4 b5 b6 b7 b8 b9 b10 b11 b12 b13 b14 b15 : Nat) (hb : ∀ n ∈ [b0, b1, b2, b3, b4, b5, b6, b7, b8, b9, b10, b11, b12, b13, b14, b15], n < 256) (w : World) :
    Calls Tryd.prog 46 #[.agg #[.bool true, .int .u8 (b0 : Int), .int .u8 (b1 : Int), .int .u8 (b2 : Int), .int .u8 (b3 : Int), .int .u8 (b4 : Int), .int .u8 (b5 : Int), .int .u8 (b6 : Int), .int .u8 (b7 : Int), .int .u8 (b8 : Int), .int .u8 (b9 : Int), .int .u8 (b10 : Int), .int .u8 (b11 : Int), .int .u8 (b12 : Int), .int .u8 (b13 : Int), .int .u8 (b14 : Int), .int .u8 (b15 : Int)]] w fun e w' => e = .returned (.string ⟨(text6 [b0, b1, b2, b3, b4, b5, b6, b7, b8, b9, b10, b11, b12, b13, b14, b15]).toArray⟩) ∧ Below w.heap.size w w' := by
  have C := Lib.hid (fun w1 => groups_any b0 b1 b2 b3 b4 b5 b6 b7 b8 b9 b10 b11 b12 b13 b14 b15 hb w1)
  clear hb
  go_enter Tryd.func46, Tryd.ntmps46
  go_wp2_with (go_at_call 49; refine (C.out _).mono ?_; rintro e w1 ⟨rfl, hb1⟩)
  go_ret
  exact ⟨rfl, ((Below.refl _ w).alloc (Nat.le_refl _) _).trans (hb1.mono (by simp))⟩
set_option maxRecDepth 100000 in
set_option maxHeartbeats 1000000 in
theorem text_four (b0 b1 b2 b3 b4 b5 b6 b7 b8 b9 b10 b11 b12 b13 b14 b15 : Nat) (hb : ∀ n ∈ [b0, b1, b2, b3], n < 256) (w : World) (hE : Env w) :
    Calls Tryd.prog 46 #[.agg #[.bool false, .int .u8 (b0 : Int), .int .u8 (b1 : Int), .int .u8 (b2 : Int), .int .u8 (b3 : Int), .int .u8 (b4 : Int), .int .u8 (b5 : Int), .int .u8 (b6 : Int), .int .u8 (b7 : Int), .int .u8 (b8 : Int), .int .u8 (b9 : Int), .int .u8 (b10 : Int), .int .u8 (b11 : Int), .int .u8 (b12 : Int), .int .u8 (b13 : Int), .int .u8 (b14 : Int), .int .u8 (b15 : Int)]] w fun e w' => e = .returned (.string ⟨(text4 [b0, b1, b2, b3]).toArray⟩) ∧ Below w.heap.size w w' := by
  have C := Lib.hid (fun w1 hE1 => numbers_any b0 b1 b2 b3 hb w1 hE1)
  have HE := Lib.hid (hE.below ((Below.refl w.heap.size w).alloc (Nat.le_refl _) (.cells #[.bool false, .int .u8 (b0 : Int), .int .u8 (b1 : Int), .int .u8 (b2 : Int), .int .u8 (b3 : Int), .int .u8 (b4 : Int), .int .u8 (b5 : Int), .int .u8 (b6 : Int), .int .u8 (b7 : Int), .int .u8 (b8 : Int), .int .u8 (b9 : Int), .int .u8 (b10 : Int), .int .u8 (b11 : Int), .int .u8 (b12 : Int), .int .u8 (b13 : Int), .int .u8 (b14 : Int), .int .u8 (b15 : Int)] 24)))
  clear hb hE
  have hst := sta4 w.heap.size
  go_enter Tryd.func46, Tryd.ntmps46
  go_wp2_with (go_at_call 50; refine (C.out _ HE.out).mono ?_; rintro e w1 ⟨rfl, hb1⟩)
  go_ret
  exact ⟨rfl, ((Below.refl _ w).alloc (Nat.le_refl _) _).trans (hb1.mono (by simp))⟩
end Go.Proofs.YthkaadcgiplolaaDoor
namespace Go.Proofs.YthkaadcgiplolaaDoor
open Go.RowKit
theorem fill_set (v : Bool) (bs : List Nat) (k : Nat) (h : k < bs.length) (h2 : bs.length ≤ 16) :
    (cellsA v (bs.take k ++ List.replicate (16 - k) 0)).setIfInBounds (1 + k) (.int .u8 ((bs.getD k 0 : Nat) : Int)) = cellsA v (bs.take (k + 1) ++ List.replicate (16 - (k + 1)) 0) := by
  have hl : (bs.take k).length = k := by simp; omega
  have h1 := set_zeros (bs.take k) (16 - k) (bs.getD k 0) (by omega)
  rw [hl] at h1
  rw [cellsA_set, h1, List.take_succ_eq_append_getElem h, show 16 - k - 1 = 16 - (k + 1) from by omega]
  simp [List.getD_eq_getElem?_getD, List.getElem?_eq_getElem h]
structure InF (w : World) (v : Bool) (bs : List Nat) (k : Nat) (wr : World) : Prop where
  le : k ≤ bs.length
  out : Blk wr w.heap.size 24 (cellsA false (List.replicate 16 0))
  own : Blk wr (w.heap.size + 1) 24 (cellsA v (bs.take k ++ List.replicate (16 - k) 0))
  low : Below w.heap.size w wr
theorem rj25 : (Tryd.prog.info? 24).map (·.size) = some 17 := by kernel_rfl
set_option maxRecDepth 100000 in
set_option maxHeartbeats 2000000 in
theorem rfrom_ok (va : Value) (v : Bool) (bs : List Nat) (w : World) (hr : Rd w va (nus .u8 bs)) (h : bs.length = 4 ∧ v = false ∨ bs.length = 16 ∧ v = true) :
    Calls Tryd.prog 26 #[va] w fun e w' => e = .returned (.tuple #[adr v (bs ++ List.replicate (16 - bs.length) 0), .int .i64 0]) ∧ Below w.heap.size w w' := by
  obtain ⟨a, cap, rfl, hlc, hcm⟩ := rd_shape hr
  obtain ⟨b, off, rfl, hc⟩ := hr.cells (by omega)
  have hstart : InF w v bs 0 ((w.alloc (.cells (cellsA false (List.replicate 16 0)) 24)).alloc (.cells (cellsA v (List.replicate 16 0)) 24)) := by
    have hn := Blk.new (w.alloc (.cells (cellsA false (List.replicate 16 0)) 24)) 24 (cellsA v (List.replicate 16 0))
    rw [World.size_alloc] at hn
    exact ⟨Nat.zero_le _, (Blk.new w 24 _).alloc _, hn, ((Below.refl _ w).alloc (Nat.le_refl _) _).alloc (by simp) _⟩
  have H0 := Lib.hid hstart
  have HC := Lib.hid hc
  have HV := Lib.hid h
  have hlen : bs.length ≤ 16 := by omega
  have hb0 : b < w.heap.size := by
    have c0 := hc 0 (by omega)
    rcases Nat.lt_or_ge b w.heap.size with h | h
    · exact h
    · simp [World.cell?, Array.getElem?_eq_none h] at c0
  have HST := Lib.hid (fun k hk => fill_set v bs k hk hlen)
  unfold maxLen at hcm
  clear hstart hr hc
  rcases h with ⟨h, rfl⟩ | ⟨h, rfl⟩
  · have HL := Lib.hid h
    rw [h] at hlc ⊢
    clear h hlen
    go_enter Tryd.func26, Tryd.ntmps26
    go_wp2
    go_loopw [5] (fun i wr => ∃ k : Nat, i = .int .i64 (k : Int) ∧ Hid (InF w false bs k wr)) (fun i _ => 4 - (RowKit.intOf i).toNat)
    case atStart => exact ⟨0, rfl, H0⟩
    case round =>
      obtain ⟨k, rfl, hI⟩ := hrel
      by_cases hlt : k < 4
      · have hc1 := (hI.out.low.cell (p := ⟨b, off + k, none⟩) hb0).trans (HC.out k (by rw [HL.out]; exact hlt))
        have hfz := hI.out.own.frozen (1 + k)
        have hcell := (hI.out.own.cell (1 + k)).trans (cellsA_get _ _ k (by simp [HL.out]; omega))
        generalize (bs.take k ++ List.replicate (16 - k) 0).getD k 0 = was at hcell
        have hki : (k : Int) < 4 := by omega
        go_wp2
        go_roundw
        case rel =>
          refine ⟨k + 1, by go_num, Lib.hid ⟨by rw [HL.out]; omega, hI.out.out.far (by simp) _, ?_, hI.out.low.setCell (p := ⟨w.heap.size + 1, 1 + k, none⟩) (Nat.le_succ _) _⟩⟩
          have h := hI.out.own.set_ (1 + k) (.int .u8 ((bs.getD k 0 : Nat) : Int))
          rw [HST.out k (by rw [HL.out]; exact hlt)] at h
          exact h
        case measure => simp [RowKit.intOf]; omega
      · obtain rfl : k = 4 := by have := hI.out.le; rw [HL.out] at this; omega
        have e : bs.take 4 ++ List.replicate (16 - 4) 0 = bs ++ List.replicate (16 - 4) 0 := by rw [List.take_of_length_le (by rw [HL.out]; exact Nat.le_refl _)]
        have ho := hI.out.own
        rw [e] at ho
        have hsz : (cellsA false (bs ++ List.replicate (16 - 4) 0)).size = 17 := by rw [cellsA_size, List.length_append, List.length_replicate, HL.out]
        have hal : (cellsA false (bs ++ List.replicate (16 - 4) 0)).all (·.oneCell') = true := cellsA_all _ _
        have HE := Lib.hid (show adr false (bs ++ List.replicate (16 - 4) 0) = .agg (cellsA false (bs ++ List.replicate (16 - 4) 0)) from rfl)
        generalize cellsA false (bs ++ List.replicate (16 - 4) 0) = c at ho hsz hal HE
        have HO := Lib.hid ho
        have Z := Lib.hid (rj25.trans (congrArg some hsz.symm))
        have Z0 := Lib.hid (hsz.trans (cellsA_size false (List.replicate 16 0)).symm)
        have A := Lib.hid hal
        clear ho hsz hal e
        go_wp2_with (first
          | ((with_reducible refine wpList_blk_load (op := ⟨some 32, .load 24 (.tmp 4), _, _, _, _⟩) ?lg1 24 (.tmp 4) ?lo1 (w.heap.size + 1) ?lx1 _ HO.out Tryd.underlying24 ?ld1 Z.out ?_); (case lg1 => rfl); (case lo1 => rfl); (case lx1 => rfl); (case ld1 => rfl))
          | ((with_reducible refine wpList_blk_store (op := ⟨none, .store 24 (.tmp 2) (.tmp 32), _, _, _, _⟩) ?sg1 24 (.tmp 2) (.tmp 32) ?so1 w.heap.size c ?sx1 ?sy1 hI.out.out Z0.out Z.out A.out ?_); (case sg1 => rfl); (case so1 => rfl); (case sx1 => rfl); (case sy1 => rfl)))
        intro w3 hA hF hB
        have HA := Lib.hid hA
        have K3 := Lib.hid (hI.out.low.trans (hB _ (Nat.le_refl _)))
        clear hF hA hB
        go_wp2
        have hrun := run_blk_load (P := Tryd.prog) 24 w.heap.size _ HA.out Tryd.underlying24 rfl Z.out
        exact bodyPost_ret (results_cell_tmp 2 24 3 w.heap.size _ Tryd.results26 rfl hrun) rfl ⟨by rw [HE.out]; rfl, K3.out⟩
  · have HL := Lib.hid h
    rw [h] at hlc ⊢
    clear h hlen
    go_enter Tryd.func26, Tryd.ntmps26
    go_wp2
    go_loopw [5] (fun i wr => ∃ k : Nat, i = .int .i64 (k : Int) ∧ Hid (InF w true bs k wr)) (fun i _ => 16 - (RowKit.intOf i).toNat)
    case atStart => exact ⟨0, rfl, H0⟩
    case round =>
      obtain ⟨k, rfl, hI⟩ := hrel
      by_cases hlt : k < 16
      · have hc1 := (hI.out.low.cell (p := ⟨b, off + k, none⟩) hb0).trans (HC.out k (by rw [HL.out]; exact hlt))
        have hfz := hI.out.own.frozen (1 + k)
        have hcell := (hI.out.own.cell (1 + k)).trans (cellsA_get _ _ k (by simp [HL.out]; omega))
        generalize (bs.take k ++ List.replicate (16 - k) 0).getD k 0 = was at hcell
        have hki : (k : Int) < 16 := by omega
        go_wp2
        go_roundw
        case rel =>
          refine ⟨k + 1, by go_num, Lib.hid ⟨by rw [HL.out]; omega, hI.out.out.far (by simp) _, ?_, hI.out.low.setCell (p := ⟨w.heap.size + 1, 1 + k, none⟩) (Nat.le_succ _) _⟩⟩
          have h := hI.out.own.set_ (1 + k) (.int .u8 ((bs.getD k 0 : Nat) : Int))
          rw [HST.out k (by rw [HL.out]; exact hlt)] at h
          exact h
        case measure => simp [RowKit.intOf]; omega
      · obtain rfl : k = 16 := by have := hI.out.le; rw [HL.out] at this; omega
        have e : bs.take 16 ++ List.replicate (16 - 16) 0 = bs ++ List.replicate (16 - 16) 0 := by rw [List.take_of_length_le (by rw [HL.out]; exact Nat.le_refl _)]
        have ho := hI.out.own
        rw [e] at ho
        have hsz : (cellsA true (bs ++ List.replicate (16 - 16) 0)).size = 17 := by rw [cellsA_size, List.length_append, List.length_replicate, HL.out]
        have hal : (cellsA true (bs ++ List.replicate (16 - 16) 0)).all (·.oneCell') = true := cellsA_all _ _
        have HE := Lib.hid (show adr true (bs ++ List.replicate (16 - 16) 0) = .agg (cellsA true (bs ++ List.replicate (16 - 16) 0)) from rfl)
        generalize cellsA true (bs ++ List.replicate (16 - 16) 0) = c at ho hsz hal HE
        have HO := Lib.hid ho
        have Z := Lib.hid (rj25.trans (congrArg some hsz.symm))
        have Z0 := Lib.hid (hsz.trans (cellsA_size false (List.replicate 16 0)).symm)
        have A := Lib.hid hal
        clear ho hsz hal e
        go_wp2_with (first
          | ((with_reducible refine wpList_blk_load (op := ⟨some 32, .load 24 (.tmp 4), _, _, _, _⟩) ?lg2 24 (.tmp 4) ?lo2 (w.heap.size + 1) ?lx2 _ HO.out Tryd.underlying24 ?ld2 Z.out ?_); (case lg2 => rfl); (case lo2 => rfl); (case lx2 => rfl); (case ld2 => rfl))
          | ((with_reducible refine wpList_blk_store (op := ⟨none, .store 24 (.tmp 2) (.tmp 32), _, _, _, _⟩) ?sg2 24 (.tmp 2) (.tmp 32) ?so2 w.heap.size c ?sx2 ?sy2 hI.out.out Z0.out Z.out A.out ?_); (case sg2 => rfl); (case so2 => rfl); (case sx2 => rfl); (case sy2 => rfl)))
        intro w3 hA hF hB
        have HA := Lib.hid hA
        have K3 := Lib.hid (hI.out.low.trans (hB _ (Nat.le_refl _)))
        clear hF hA hB
        go_wp2
        have hrun := run_blk_load (P := Tryd.prog) 24 w.heap.size _ HA.out Tryd.underlying24 rfl Z.out
        exact bodyPost_ret (results_cell_tmp 2 24 3 w.heap.size _ Tryd.results26 rfl hrun) rfl ⟨by rw [HE.out]; rfl, K3.out⟩
end Go.Proofs.YthkaadcgiplolaaDoor
