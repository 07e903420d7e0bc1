/- What GridWalks and GridActs lean on: rows of items as they are read, items compared, rows of bools, ints that came in. -/
import Derived.Test.YtimnmdeiiahakaaS19q
import Derived.Test.YtimnmdeiiahakaaS19n
import Derived.Test.YtimnmdeiiahakaaS19w
import Derived.Test.YtimnmdeiiahakaaRow
import Derived.Test.YtimnmdeiiahakaaRnd
import Derived.Deep.CutBlock
import Derived.Deep.DeepCutAuto
import Derived.DeepKeys
import Derived.LoopTactic
import Derived.Handy
namespace Go.Proofs.Ytimnmdeiiahakaa
open Go.RowKit Go.Lib

/-- Cells of a row of ints. -/
def ivs (zs : List Int) : List Value := zs.map fun n => .int .i64 n
theorem ivs_len (zs : List Int) : (ivs zs).length = zs.length := by simp [ivs]
theorem ivs_get (zs : List Int) (i : Nat) (h : i < zs.length) : (ivs zs)[i]? = some (.int .i64 (zs.getD i 0)) := by
  simp [ivs, List.getElem?_eq_getElem h, List.getD_eq_getElem?_getD]
theorem rdI_shape {w : World} {v : Value} {zs : List Int} (h : Rd w v (ivs zs)) : ∃ a cap, v = .slice a zs.length cap ∧ zs.length ≤ cap ∧ cap ≤ maxLen := by
  obtain ⟨a, cap, rfl, h1, h2, -⟩ := h
  rw [ivs_len] at h1 ⊢
  exact ⟨a, cap, rfl, h1, h2⟩
theorem RdI.cells {w : World} {a : Option Addr} {len cap : Nat} {zs : List Int} (h : Rd w (.slice a len cap) (ivs zs)) (h0 : 0 < zs.length) :
    ∃ b off, a = some ⟨b, off, none⟩ ∧ ∀ i, i < zs.length → w.cell? ⟨b, off + i, none⟩ = some (.int .i64 (zs.getD i 0)) := by
  obtain ⟨a', cap', e, -, -, h3⟩ := h
  simp only [Value.slice.injEq] at e
  obtain ⟨rfl, -, -⟩ := e
  rcases h3 with h3 | ⟨b, off, rfl, -, hc⟩
  · have := congrArg List.length h3
    rw [ivs_len] at this
    simp at this
    rw [this] at h0
    simp at h0
  · exact ⟨b, off, rfl, fun i hi => by rw [hc i (by rw [ivs_len]; exact hi), ivs_get zs i hi]⟩
theorem row_rdI {w : World} {a : Option Addr} {len cap : Nat} {zs : List Int}
    (h : (a = none ∧ len = 0 ∧ cap = 0 ∧ zs = []) ∨ ∃ x, a = some x ∧ len ≤ cap ∧ cap ≤ maxLen ∧ zs.length = cap ∧ (∀ i, i < zs.length → w.cell? (x.add i) = some (.int .i64 (zs.getD i 0))) ∧ ∀ n ∈ zs, (Lit.int .i64 n).wf = true) :
    Rd w (.slice a len cap) (ivs (zs.take len)) := by
  rcases h with ⟨rfl, rfl, rfl, rfl⟩ | ⟨x, rfl, hl, hm, hz, hc, -⟩
  · exact ⟨none, 0, rfl, by simp [ivs], by simp [maxLen], .inl rfl⟩
  · have hlen : (ivs (zs.take len)).length = len := by simp [ivs]; omega
    refine ⟨some x, cap, by rw [hlen], by rw [hlen]; exact hl, hm, ?_⟩
    by_cases h0 : len = 0
    · exact .inl (by subst h0; simp [ivs])
    · obtain ⟨b, off, spot⟩ := x
      have h00 := hc 0 (by omega)
      have hspot : spot = none := by simpa [Addr.add] using World.cell?_spot h00
      subst hspot
      refine .inr ⟨b, off, rfl, ?_, fun i hi => ?_⟩
      · have := World.block_lt_of_cell? w _ h00
        simpa [Addr.add] using this
      · rw [hlen] at hi
        have h1 := hc i (by omega)
        have hadd : (⟨b, off, none⟩ : Addr).add i = ⟨b, off + i, none⟩ := by unfold Addr.add; split <;> simp_all
        rw [hadd] at h1
        rw [h1]
        simp [ivs, List.getD_eq_getElem?_getD, hi, List.getElem?_eq_getElem (show i < zs.length by omega)]
/-- A slice that reads as these items. -/
def RdR (w : World) (v : Value) (sz : Nat) (L : List (Nat × Int)) : Prop :=
  ∃ (a : Option Addr) (cap : Nat), v = .slice a L.length cap ∧ (L = [] ∨ ∃ g cur, a = some ⟨g, 0, none⟩ ∧ Blk w g 35 cur ∧ ∀ n x j, L[n]? = some x → j < 3 → cur[n * 3 + j]? = (icell sz x)[j]?)
theorem RdR.below {w w' : World} {v : Value} {sz : Nat} {L : List (Nat × Int)} (h : RdR w v sz L) (hb : Below w.heap.size w w') : RdR w' v sz L := by
  obtain ⟨a, cap, rfl, h2⟩ := h
  refine ⟨a, cap, rfl, ?_⟩
  rcases h2 with h2 | ⟨g, cur, rfl, hl, hc⟩
  · exact .inl h2
  · exact .inr ⟨g, cur, rfl, hl.below hb hl.lt, hc⟩
theorem rdR_own {w : World} {base : Nat} {v : Value} {sz : Nat} {L : List (Nat × Int)} (h : w.ownsRow base 35 3 v L.length (icells sz L)) : RdR w v sz L := by
  have h' := h
  rcases h.2 with ⟨rfl, h0⟩ | ⟨g, cap, cur, rfl, hbg, hg, h3⟩
  · have : L = [] := List.eq_nil_of_length_eq_zero h0
    exact ⟨none, 0, by rw [this]; rfl, .inl this⟩
  · refine ⟨_, cap, rfl, .inr ⟨g, cur, rfl, hg, fun n x j hx hj => ?_⟩⟩
    have e := icells_get sz L n j x hx hj
    have hlt : j < (icell sz x).length := hj
    have e2 : (icells sz L)[n * 3 + j]? = some ((icell sz x)[j]) := by rw [e, List.getElem?_eq_getElem hlt]
    have q := h'.cells (g := g) rfl (n * 3 + j) _ e2
    rw [Addr.add_lit, Nat.zero_add, (show Blk w g 35 cur from hg).cell] at q
    rw [q, List.getElem?_eq_getElem hlt]
theorem RdR.at {w : World} {a : Option Addr} {len cap : Nat} {sz : Nat} {L : List (Nat × Int)} (h : RdR w (.slice a len cap) sz L) (n : Nat) (x : Nat × Int) (hx : L[n]? = some x) :
    ∃ g cur, a = some ⟨g, 0, none⟩ ∧ Blk w g 35 cur ∧ cur[n * 3]? = some (.int .i64 ((x.1 / sz : Nat) : Int)) ∧ cur[n * 3 + 1]? = some (.int .i64 ((x.1 % sz : Nat) : Int)) ∧ cur[n * 3 + 2]? = some (.int .i64 x.2) := by
  obtain ⟨a', cap', e, h2⟩ := h
  simp only [Value.slice.injEq] at e
  obtain ⟨rfl, -, -⟩ := e
  rcases h2 with rfl | ⟨g, cur, rfl, hb, hc⟩
  · simp at hx
  · exact ⟨g, cur, rfl, hb, hc n x 0 hx (by omega), hc n x 1 hx (by omega), hc n x 2 hx (by omega)⟩
theorem RdR.shape {w : World} {v : Value} {sz : Nat} {L : List (Nat × Int)} (h : RdR w v sz L) : ∃ a cap, v = .slice a L.length cap := by
  obtain ⟨a, cap, e, -⟩ := h; exact ⟨a, cap, e⟩
theorem all_rd (B st sz : Nat) (c : Nat → Option Int) (most : Int) (L : List (Nat × Int)) (hL : cutG (itF c 0 (st * sz)) most = L) (w : World) (hG : GdI B st sz c w) :
    Calls Try.prog 13 #[.pointer (some ⟨B + 1, 0, none⟩), .int .i64 most] w fun e w' => ∃ a cap, e = .returned (.slice a L.length cap) ∧ RdR w' (.slice a L.length cap) sz L ∧ Below w.heap.size w w' := by
  refine (all_any B st sz c most w hG).mono ?_
  rintro e w' ⟨x, rfl, hx, hy⟩
  rw [hL] at hx
  have hr := rdR_own hx
  obtain ⟨a, cap, rfl⟩ := hr.shape
  exact ⟨a, cap, rfl, hr, hy⟩
theorem cutG_take {α : Type} (L : List α) (r : Nat) : cutG L (r : Int) = L.take r := by
  unfold cutG
  split
  · rw [Int.toNat_natCast]
  · rw [List.take_of_length_le (by omega)]
theorem cutG_all {α : Type} (L : List α) : cutG L (-1) = L := by
  unfold cutG; rw [if_neg (by omega)]
/-- Places and items compared. -/
theorem i64_wf (n : Int) (h : -9223372036854775808 ≤ n ∧ n ≤ 9223372036854775807) : (Lit.int .i64 n).wf = true := by
  simp [Lit.wf, IntKind.min, IntKind.max, IntKind.signed, IntKind.bits]
  omega
theorem key_i64 (d : Nat) (n : Int) (h : (Lit.int .i64 n).wf = true) : Try.prog.keyLits (d + 1) 3 [.int .i64 n] = some [.int .i64 n] := by
  unfold Program.keyLits
  rw [Try.underlying3]
  simp [h]
theorem lits30 (d : Nat) (a b : Int) (ha : (Lit.int .i64 a).wf = true) (hb : (Lit.int .i64 b).wf = true) : Try.prog.keyLits (d + 2) 30 [.int .i64 a, .int .i64 b] = some [.int .i64 a, .int .i64 b] := by
  unfold Program.keyLits
  rw [Try.underlying30]
  have hc : Try.prog.cellsOf 3 = 1 := by kernel_rfl
  have hc2 : Try.prog.cellsOf 30 = 2 := by kernel_rfl
  simp [hc, hc2, key_i64 d a ha, key_i64 d b hb]
theorem formed30 (a b : Value) : (Value.agg #[a, b]).formed Try.prog 30 = true := by
  have hc : Try.prog.cellsOf 30 = 2 := by kernel_rfl
  simp [Value.formed, Try.underlying30, hc]
theorem eq_pl (a b a' b' : Int) (ha : (Lit.int .i64 a).wf = true) (hb : (Lit.int .i64 b).wf = true) (ha' : (Lit.int .i64 a').wf = true) (hb' : (Lit.int .i64 b').wf = true) (w : World) : (Op.equalIn Op.maxDepth 30 (.agg #[.int .i64 a, .int .i64 b]) (.agg #[.int .i64 a', .int .i64 b'])).run Try.prog w = .ok (decide (a = a' ∧ b = b')) w := by
  obtain ⟨r, hr, he⟩ := run_equalIn_deep (P := Try.prog) 9998 2 30 (by kernel_rfl) w 2 2 _ _ _ _ (formed30 _ _) (formed30 _ _) (lits30 0 a b ha hb) (lits30 0 a' b' ha' hb')
  have e : r = decide (a = a' ∧ b = b') := by
    rw [Bool.eq_iff_iff, he, decide_eq_true_iff]
    simp
  rw [← e]
  exact hr
theorem lits35 (a b c : Int) (ha : (Lit.int .i64 a).wf = true) (hb : (Lit.int .i64 b).wf = true) (hc : (Lit.int .i64 c).wf = true) : Try.prog.keyLits 3 35 [.int .i64 a, .int .i64 b, .int .i64 c] = some [.int .i64 a, .int .i64 b, .int .i64 c] := by
  unfold Program.keyLits
  rw [Try.underlying35]
  have h1 : Try.prog.cellsOf 3 = 1 := by kernel_rfl
  have h2 : Try.prog.cellsOf 30 = 2 := by kernel_rfl
  have h3 : Try.prog.cellsOf 35 = 3 := by kernel_rfl
  simp [h1, h2, h3, lits30 0 a b ha hb, key_i64 1 c hc]
theorem formed35 (a b c : Value) : (Value.agg #[a, b, c]).formed Try.prog 35 = true := by
  have hc : Try.prog.cellsOf 35 = 3 := by kernel_rfl
  simp [Value.formed, Try.underlying35, hc]
theorem eq_it (a b c : Int) (ha : (Lit.int .i64 a).wf = true) (hb : (Lit.int .i64 b).wf = true) (hc : (Lit.int .i64 c).wf = true) (w : World) : (Op.equalIn Op.maxDepth 35 (.agg #[.int .i64 a, .int .i64 b, .int .i64 c]) (.agg #[.int .i64 a, .int .i64 b, .int .i64 c])).run Try.prog w = .ok true w := by
  obtain ⟨r, hr, he⟩ := run_equalIn_deep (P := Try.prog) 9997 3 35 (by kernel_rfl) w 3 3 _ _ _ _ (formed35 _ _ _) (formed35 _ _ _) (lits35 a b c ha hb hc) (lits35 a b c ha hb hc)
  have e : r = true := he.mpr rfl
  rw [← e]; exact hr
theorem guardA (t : TypeId) (hg : Try.prog.eqGuardType Try.prog.depth t = false) (op : BinOp) (x y : Operand) (A B : Array Value) (w : World) (hop : op = .eql ∨ op = .neq) : (eqGuard op t x y (.agg A) (.agg B)).run Try.prog w = .ok () w := by
  unfold eqGuard
  rcases hop with rfl | rfl <;> simp [hg]
theorem exec_eqlA {t : TypeId} (hg : Try.prog.eqGuardType Try.prog.depth t = false) {w : World} {o : Oper} {a : Act} (x y : Operand) (ho : o.op = .binOp .eql t x y t) (A B : Array Value) (hx : a.eval x = .agg A) (hy : a.eval y = .agg B) (r : Bool) (hq : (Op.equalIn Op.maxDepth t (.agg A) (.agg B)).run Try.prog w = .ok r w) : (execOp a.eval o).run Try.prog w = .ok (.value (.bool r)) w := by
  unfold execOp
  simp only [ho, hx, hy, binOp, Op.equal, Sem.run_bind, guardA t hg _ x y A B w (.inl rfl), hq, Result.andThen_ok, Sem.run_pure]
theorem exec_neqA {t : TypeId} (hg : Try.prog.eqGuardType Try.prog.depth t = false) {w : World} {o : Oper} {a : Act} (x y : Operand) (ho : o.op = .binOp .neq t x y t) (A B : Array Value) (hx : a.eval x = .agg A) (hy : a.eval y = .agg B) (r : Bool) (hq : (Op.equalIn Op.maxDepth t (.agg A) (.agg B)).run Try.prog w = .ok r w) : (execOp a.eval o).run Try.prog w = .ok (.value (.bool (!r))) w := by
  unfold execOp
  simp only [ho, hx, hy, binOp, Op.equal, Sem.run_bind, guardA t hg _ x y A B w (.inr rfl), hq, Result.andThen_ok, Sem.run_pure]
theorem gd30 : Try.prog.eqGuardType Try.prog.depth 30 = false := by kernel_rfl
theorem gd35 : Try.prog.eqGuardType Try.prog.depth 35 = false := by kernel_rfl
theorem i35 : (Try.prog.info? 35).map (·.size) = some 3 := by kernel_rfl
/-- An item in such a block is loaded; its place. -/
theorem load_it {w : World} {g n : Nat} {cur : Array Value} {a b v : Int} (h : Blk w g 35 cur) (h0 : cur[n * 3]? = some (.int .i64 a)) (h1 : cur[n * 3 + 1]? = some (.int .i64 b)) (h2 : cur[n * 3 + 2]? = some (.int .i64 v)) :
    (loadVar 35 ⟨g, n * 3, none⟩).run Try.prog w = .ok (.agg #[.int .i64 a, .int .i64 b, .int .i64 v]) w :=
  run_loadVar_mid (P := Try.prog) w g (n * 3) 35 [.int .i64 a, .int .i64 b, .int .i64 v] _ (fun j u hj => by
    rw [h.cell (n * 3 + j)]
    match j, hj with
    | 0, hj => cases hj; exact h0
    | 1, hj => cases hj; exact h1
    | 2, hj => cases hj; exact h2) Try.underlying35 rfl i35
theorem load_pl {w : World} {g n : Nat} {cur : Array Value} {a b : Int} (h : Blk w g 35 cur) (h0 : cur[n * 3]? = some (.int .i64 a)) (h1 : cur[n * 3 + 1]? = some (.int .i64 b)) :
    (loadVar 30 ⟨g, n * 3, none⟩).run Try.prog w = .ok (.agg #[.int .i64 a, .int .i64 b]) w :=
  run_loadVar_mid (P := Try.prog) w g (n * 3) 30 [.int .i64 a, .int .i64 b] _ (fun j u hj => by
    rw [h.cell (n * 3 + j)]
    match j, hj with
    | 0, hj => cases hj; exact h0
    | 1, hj => cases hj; exact h1) Try.underlying30 rfl i30
/-- A row of bools. -/
def bls (s : Nat → Bool) (n : Nat) : Array Value := ((List.range n).map fun k => Value.bool (s k)).toArray
theorem bls_get (s : Nat → Bool) (n k : Nat) (h : k < n) : (bls s n)[k]? = some (.bool (s k)) := by unfold bls; simp [List.getElem?_range h]
def updS (s : Nat → Bool) (k : Nat) : Nat → Bool := fun j => if j = k then true else s j
theorem bls_set (s : Nat → Bool) (n k : Nat) : (bls s n).setIfInBounds k (.bool true) = bls (updS s k) n := by
  apply Array.ext_getElem?
  intro j
  rw [Array.getElem?_setIfInBounds]
  unfold bls updS
  simp only [List.size_toArray, List.length_map, List.length_range, List.getElem?_toArray, List.getElem?_map]
  by_cases hj : j < n
  · rw [List.getElem?_range hj, Option.map_some, Option.map_some]
    by_cases h : k = j
    · subst h; rw [if_pos rfl, if_pos hj, if_pos rfl]
    · rw [if_neg h, if_neg (by omega)]
  · rw [List.getElem?_eq_none (by simp; omega)]
    by_cases h : k = j
    · subst h; rw [if_pos rfl, if_neg hj]; rfl
    · rw [if_neg h]; rfl
theorem info4 : (Try.prog.info? 4).map (fun i => (i.zero, i.size, i.bytes)) = some (some (.bool false), 1, 1) := by kernel_rfl
theorem made_bls (n : Nat) : madeCells (Value.bool false).cells (n * 1) = bls (fun _ => false) n := by
  show madeCells #[Value.bool false] (n * 1) = _
  rw [Nat.mul_one]
  unfold bls
  rw [show ((List.range n).map fun _ => Value.bool false) = List.replicate n (.bool false) by simp [List.map_const'], ← toList_madeCells_one, Array.toArray_toList]
/-- What stands where, by what was set: at each place its own number. -/
def cS (s : Nat → Bool) (k : Nat) : Option Int := if s k then some (k : Int) else none
theorem cS_none : cS (fun _ => false) = fun _ => none := rfl
theorem cS_put (s : Nat → Bool) (k : Nat) : putC (cS s) k (some (k : Int)) = cS (updS s k) := by
  funext j
  unfold putC cS updS
  by_cases h : j = k
  · subst h; rw [if_pos rfl, if_pos rfl]; rfl
  · rw [if_neg h, if_neg h]
theorem cS_yes {s : Nat → Bool} {k : Nat} (h : s k = true) : cS s k = some (k : Int) := by unfold cS; rw [if_pos h]
theorem cS_no {s : Nat → Bool} {k : Nat} (h : s k = false) : cS s k = none := by unfold cS; rw [if_neg (by rw [h]; decide)]
end Go.Proofs.Ytimnmdeiiahakaa
