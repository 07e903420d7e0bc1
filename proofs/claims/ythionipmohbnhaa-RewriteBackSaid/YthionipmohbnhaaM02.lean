/- Texts that the walks of this seat lean on, put together. -/
import Derived.Lib.QuietBelow
import Derived.WalkKit
import Derived.WalkSpells
import Derived.WalkLawsBesides
import Derived.Deep.MidRow
import Derived.Laws.Rows
import Derived.Below
import Derived.Handy
import Derived.Ground.SlbCloneProg
import Derived.Shelf.Bytes.SlClone
import Derived.RangeFuncRecord
import Derived.LoopTactic
import Derived.Lib.Hide
import Derived.DeepKeys
import Derived.StillTailTactics
import Derived.Laws.Tables
import Derived.Deep.RegionHeld
import Derived.Test.YthionipmohbnhaaTk
import Derived.Test.YthionipmohbnhaaM01
import Derived.Test.YthionipmohbnhaaProg
namespace Go.Proofs.Ythionipmohbnhaa
open Go.RowKit
set_option maxRecDepth 100000 in
set_option maxHeartbeats 1000000 in
theorem rsum_any (va : Value) (zs : List Nat) (start : Nat) (w : World) (hr : Rd w va (nus .u8 zs)) (hz : zs.length ≤ 2000) (hb : ∀ c ∈ zs, c < 256) (hs : start < 4294967296) :
    Calls Try.prog 29 #[va, .int .u32 (start : Int)] w fun e w' => e = .returned (.int .i64 (gr (start + wsp 0 zs) : Nat)) ∧ w = w' := by
  have HR := Lib.hid hr
  obtain ⟨a, cap, rfl, h1, h2, -⟩ := hr
  rw [nus_length] at h1 HR ⊢
  unfold maxLen at h2
  obtain ⟨len, hl⟩ : ∃ n, n = zs.length := ⟨_, rfl⟩
  rw [← hl] at h1 hz HR ⊢
  have HL := Lib.hid hl
  have HB := Lib.hid hb
  clear hl hb
  go_enter Try.func29, Try.ntmps29
  go_wp2
  go_loop [5, 6] (fun u i => ∃ j p s : Nat, p = 2 * j ∧ p ≤ len + 1 ∧ i = .int .i64 (p : Int) ∧ s = start + wsp 0 (zs.take p) ∧ u = .int .u64 (s : Int)) (fun _ i => len + 1 - (intOf i).toNat)
  case atStart => exact ⟨0, 0, start, rfl, by omega, rfl, by simp [wsp], rfl⟩
  case round =>
    obtain ⟨j, p, s, hp, hpl, rfl, hse, rfl⟩ := hrel
    have hsl : s < 4425600000 := by
      have := wsp_take_lt zs p HB.out
      rw [← HL.out] at this
      omega
    have HS := Lib.hid hse
    have HP := Lib.hid hp
    clear hse hp
    by_cases hlt : p < len
    · obtain ⟨b, o, rfl, hc⟩ := HR.out.cells (by omega)
      have c0 := hc p hlt
      have hx := getD_lt zs HB.out p
      have hw := wsp_two zs j (by rw [← HP.out, ← HL.out]; exact hlt)
      rw [show 2 * (j + 1) = p + 2 from by rw [HP.out]; omega, ← HP.out] at hw
      unfold w2 at hw
      rw [← HP.out] at hw
      have HW := Lib.hid hw
      obtain ⟨x, hxe⟩ : ∃ x, x = zs.getD p 0 := ⟨_, rfl⟩
      rw [← hxe] at c0 hx
      have HX := Lib.hid hxe
      have HC := Lib.hid hc
      clear hw hxe hc
      by_cases hlt2 : p + 1 < len
      · have c1 := HC.out (p + 1) hlt2
        have hy := getD_lt zs HB.out (p + 1)
        obtain ⟨y, hye⟩ : ∃ y, y = zs.getD (p + 1) 0 := ⟨_, rfl⟩
        rw [← hye] at c1 hy
        have HY := Lib.hid hye
        clear hye
        go_wp2
        go_round
        case rel => exact ⟨j + 1, p + 2, s + x * 256 + y, by have := HP.out; omega, by omega, by go_num, by have := HS.out; have := HX.out; have := HY.out; rw [HW.out, ← HX.out, ← HY.out]; omega, by go_num⟩
        case measure => simp [intOf]; omega
      · have hy : zs.getD (p + 1) 0 = 0 := by rw [List.getD_eq_getElem?_getD, List.getElem?_eq_none (by rw [← HL.out]; omega)]; rfl
        have HY := Lib.hid hy
        clear hy
        go_wp2
        go_round
        case rel => exact ⟨j + 1, p + 2, s + x * 256, by have := HP.out; omega, by omega, by go_num, by rw [HW.out, HY.out, ← HX.out, HS.out]; omega, by go_num⟩
        case measure => simp [intOf]; omega
    · have hse : s = start + wsp 0 zs := by rw [HS.out, List.take_of_length_le (by rw [← HL.out]; omega)]
      have HSE := Lib.hid hse
      clear hse
      go_wp2
      go_loop [5] (fun v => ∃ x : Nat, gr x = gr s ∧ x < 4611686018427387904 ∧ v = .int .u64 x) (fun v => (intOf v).toNat)
      case atStart => exact ⟨s, rfl, by omega, rfl⟩
      case round =>
        obtain ⟨x, hg, hx, rfl⟩ := hrel
        have HG := Lib.hid hg
        clear hg
        by_cases hlt : 65535 < x
        · have hst := Lib.hid (gr_step x hlt)
          have ho := Lib.hid (go_on x (by omega))
          go_wp2
          go_round
          case rel => exact ⟨x / 65536 + x % 65536, by rw [hst.out, HG.out], by omega, by rw [ho.out]⟩
          case measure => rw [ho.out]; simp [intOf]; omega
        · have hfin := Lib.hid (gr_lt s x HG.out (by omega))
          go_wp2
          go_ret
          exact ⟨ret_int (by rw [← HSE.out, ← hfin.out]), rfl⟩
set_option maxHeartbeats 400000 in
theorem rcheck_any (va : Value) (zs : List Nat) (w : World) (hr : Rd w va (nus .u8 zs)) (hz : zs.length ≤ 2000) (hb : ∀ c ∈ zs, c < 256) :
    Calls Try.prog 47 #[va] w fun e w' => e = .returned (.int .i64 (ck zs : Nat)) ∧ w = w' := by
  have hg := gr_le (wsp 0 zs)
  have hv : Hid ((65535 : Int) - (gr (wsp 0 zs) : Int) = ((ck zs : Nat) : Int)) := by
    show _ = _
    unfold ck
    omega
  go_enter Try.func47, Try.ntmps47
  go_wp2_with fail
  refine (rsum_any va zs 0 w hr hz hb (by omega)).mono ?_
  rintro e w' ⟨rfl, rfl⟩
  rw [Nat.zero_add]
  go_wp2
  go_ret
  exact ⟨ret_int hv.out, rfl⟩
def chA (old : Nat) (F T : List Nat) : Nat := if F.length = T.length ∧ F.length % 2 = 0 then chg old F T (F.length / 2) else old
theorem chA_no (old : Nat) (F T : List Nat) (h : F.length ≠ T.length ∨ F.length % 2 ≠ 0) : chA old F T = old := by
  unfold chA; rw [if_neg (by omega)]
theorem chA_yes (old : Nat) (F T : List Nat) (m : Nat) (h : F.length = 2 * m) (h2 : T.length = 2 * m) : chA old F T = chg old F T m := by
  unfold chA; rw [if_pos (by omega), show F.length / 2 = m from by omega]
end Go.Proofs.Ythionipmohbnhaa
namespace Go.Proofs.Ythionipmohbnhaa
open Go.RowKit
def hs (zs : List Nat) : Nat := 4 * (zs.getD 0 0 % 16)
theorem hs_lt (zs : List Nat) : hs zs ≤ 60 := by unfold hs; omega
theorem low4 (x : Nat) (h : x < 256) : bits .and .u8 (x : Int) 15 = ((x % 16 : Nat) : Int) := by
  have : ∀ x : Fin 256, bits .and .u8 ((x.1 : Nat) : Int) 15 = ((x.1 % 16 : Nat) : Int) := by decide +kernel
  exact this ⟨x, h⟩
def ff (zs : List Nat) : Nat :=
  if zs.length < 20 then 1
  else if zs.getD 0 0 / 16 ≠ 4 ∨ hs zs < 20 ∨ u2 zs 2 < hs zs then 3
  else if zs.length < u2 zs 2 then 1
  else if ck (zs.take (hs zs)) ≠ 0 then 4
  else if u2 zs 6 % 16384 ≠ 0 then 5
  else if zs.getD 9 0 ≠ 6 ∧ zs.getD 9 0 ≠ 17 then 6 else 0
theorem ff_lt (zs : List Nat) : ff zs < 7 := by unfold ff; repeat' split
                                                all_goals omega
theorem low14 (x : Nat) (_h : x < 65536) : bits .and .u16 (x : Int) 16383 = ((x % 16384 : Nat) : Int) := by
  have e : (BitVec.ofInt 16 16383).toNat = 2 ^ 14 - 1 := by decide
  have key : (BitVec.ofInt 16 (x : Int) &&& BitVec.ofInt 16 16383).toNat = x % 2 ^ 14 := by
    rw [BitVec.toNat_and, BitVec.toNat_ofInt, e, Nat.and_two_pow_sub_one_eq_mod]
    omega
  show IntKind.u16.wrap ((BitVec.ofInt 16 (x : Int) &&& BitVec.ofInt 16 16383).toNat : Nat) = _
  rw [key, IntKind.wrap_u16]
  omega
end Go.Proofs.Ythionipmohbnhaa
namespace Go.Proofs.Ythionipmohbnhaa
open Go.RowKit
def Blk (w : World) (g : Nat) (t : TypeId) (cs : Array Value) : Prop := w.heap[g]? = some (.cells cs t (0, 0))
section
variable {w w' : World} {g : Nat} {t : TypeId} {cs : Array Value}
theorem Blk.lt (h : Blk w g t cs) : g < w.heap.size := by
  rcases Nat.lt_or_ge g w.heap.size with hlt | hge
  · exact hlt
  · unfold Blk at h; rw [Array.getElem?_eq_none hge] at h; cases h
theorem Blk.cell (h : Blk w g t cs) (i : Nat) : w.cell? ⟨g, i, none⟩ = cs[i]? := cell_of_row w g i cs t (0, 0) h
theorem Blk.frozen (h : Blk w g t cs) (i : Nat) : w.frozen? ⟨g, i, none⟩ = false := by
  unfold Blk at h
  simp [World.frozen?, h]
theorem Blk.new (w : World) (t : TypeId) (cs : Array Value) : Blk (w.alloc (.cells cs t)) w.heap.size t cs := by
  simp [Blk, World.alloc, -World.alloc_eq]
theorem Blk.drew (h : Blk w g t cs) : Blk w.drew g t cs := h
theorem Blk.alloc (h : Blk w g t cs) (o : Obj) : Blk (w.alloc o) g t cs := (Below.heap_alloc w o g h.lt).trans h
theorem Blk.set_ (h : Blk w g t cs) (i : Nat) (u : Value) : Blk (w.setCell ⟨g, i, none⟩ u) g t (cs.setIfInBounds i u) := by
  unfold Blk at h ⊢
  simp [World.setCell, Array.getElem?_modify, h]
theorem Blk.far (h : Blk w g t cs) {p : Addr} (hp : g ≠ p.block) (u : Value) : Blk (w.setCell p u) g t cs := (Below.heap_setCell w p u g hp).trans h
theorem Blk.below {B : Nat} (h : Blk w g t cs) (hb : Below B w w') (hg : g < B) : Blk w' g t cs := (hb.block g hg).trans h
theorem Blk.range (h : Blk w g t cs) : w.rangeAt g 0 cs.toList := fun j v hv => by
  rw [Nat.zero_add, h.cell j]
  simpa using hv
theorem Blk.there (h : Blk w g t cs) : w.there g 0 cs.size := fun j hj => by
  rw [Nat.zero_add, h.cell j, h.frozen j]
  simp [hj]
theorem Blk.thereN (h : Blk w g t cs) {n : Nat} (hn : n ≤ cs.size) : w.there g 0 n := fun j hj => h.there j (by omega)
def setL (cs : Array Value) : Nat → List Value → Array Value
  | _, [] => cs
  | o, v :: r => setL (cs.setIfInBounds o v) (o + 1) r
theorem setL_get : ∀ (vs : List Value) (cs : Array Value) (o j : Nat), (setL cs o vs)[j]? = if o ≤ j ∧ j < o + vs.length ∧ j < cs.size then vs[j - o]? else cs[j]?
  | [], cs, o, j => by
    rw [setL, if_neg]
    simp; omega
  | v :: r, cs, o, j => by
    rw [setL, setL_get r, Array.size_setIfInBounds, Array.getElem?_setIfInBounds]
    by_cases h1 : o = j
    · subst h1
      by_cases h2 : o < cs.size
      · rw [if_neg (by omega), if_pos rfl, if_pos h2, if_pos ⟨by omega, by simp, h2⟩]
        simp
      · rw [if_neg (by omega), if_pos rfl, if_neg h2, if_neg (by omega)]
        rw [Array.getElem?_eq_none (by omega)]
    · rw [if_neg h1]
      by_cases h2 : o + 1 ≤ j ∧ j < o + 1 + r.length ∧ j < cs.size
      · rw [if_pos h2, if_pos ⟨by omega, by simp; omega, h2.2.2⟩, show j - o = (j - (o + 1)) + 1 by omega]
        simp
      · rw [if_neg h2, if_neg (by simp; omega)]
theorem setL_all (cs : Array Value) (vs : Array Value) (h : vs.size = cs.size) : setL cs 0 vs.toList = vs := by
  apply Array.ext_getElem?
  intro j
  rw [setL_get]
  by_cases hj : j < cs.size
  · rw [if_pos ⟨by omega, by simp; omega, hj⟩]
    simp
  · rw [if_neg (by omega), Array.getElem?_eq_none (by omega), Array.getElem?_eq_none (by omega)]
theorem Blk.setCells : ∀ (vs : List Value) (o : Nat) (w : World) (cs : Array Value), Blk w g t cs → Blk (w.setCells g o vs) g t (setL cs o vs)
  | [], _, _, _, h => h
  | v :: r, o, _, _, h => Blk.setCells r (o + 1) _ _ (h.set_ o v)
theorem Blk.setAll (h : Blk w g t cs) (vs : Array Value) (hv : vs.size = cs.size) : Blk (w.setCells g 0 vs.toList) g t vs := by
  have := Blk.setCells vs.toList 0 w cs h
  rwa [setL_all cs vs hv] at this
theorem setCells_far (k : Nat) (hk : k ≠ g) : ∀ (vs : List Value) (o : Nat) (w : World), (w.setCells g o vs).heap[k]? = w.heap[k]?
  | [], _, _ => rfl
  | v :: r, o, w => (setCells_far k hk r (o + 1) _).trans (Below.heap_setCell w ⟨g, o, none⟩ v k hk)
theorem setCells_below {B : Nat} {a : World} (hg : B ≤ g) : ∀ (vs : List Value) (o : Nat) (w : World), Below B a w → Below B a (w.setCells g o vs)
  | [], _, _, h => h
  | v :: r, o, _, h => setCells_below hg r (o + 1) _ (h.setCell (p := ⟨g, o, none⟩) hg v)
theorem wpList_blk_load {P : Program} {ops : Array Oper} {rest : List Oper} {op : Oper} {a : Act} {Q : Exit → Act → World → Prop} (hgd : op.guard = none) (ty : TypeId) (x : Operand) (ho : op.op = .load ty x)
    (b : Nat) (hx : a.eval x = .pointer (some ⟨b, 0, none⟩)) (d : TypeDesc) (hc : Blk w b t cs)
    (hu : P.underlying ty = some d) (hd : d.isRow = true) (hi : (P.info? ty).map (·.size) = some cs.size)
    (h : wpList P ops Q rest (a.put op.dst (.agg cs)) w) : wpList P ops Q (op :: rest) a w :=
  wpList_load_mid hgd ty x ho b 0 hx cs.toList d hc.range hu hd (by simpa using hi) (by simpa using h)
theorem wpList_blk_store {P : Program} {ops : Array Oper} {rest : List Oper} {op : Oper} {a : Act} {Q : Exit → Act → World → Prop} (hgd : op.guard = none) (ty : TypeId) (x y : Operand) (ho : op.op = .store ty x y)
    (b : Nat) (vs : Array Value) (hx : a.eval x = .pointer (some ⟨b, 0, none⟩)) (hy : a.eval y = .agg vs) (hc : Blk w b t cs) (hs : vs.size = cs.size)
    (hi : (P.info? ty).map (·.size) = some vs.size) (h1 : vs.all (·.oneCell') = true)
    (h : ∀ w', Blk w' b t vs → (∀ k, k ≠ b → w'.heap[k]? = w.heap[k]?) → (∀ B, B ≤ b → Below B w w') → wpList P ops Q rest (a.put op.dst undef) w') : wpList P ops Q (op :: rest) a w :=
  wpList_store_mid hgd ty x y ho b 0 vs hx hy (hc.thereN (by omega)) hi h1
    (h _ (hc.setAll vs hs) (fun k hk => setCells_far k hk _ _ _) (fun B hB => setCells_below hB _ _ _ (Below.refl _ _)))
theorem run_blk_load {P : Program} (ty : TypeId) (b : Nat) (d : TypeDesc) (hc : Blk w b t cs) (hu : P.underlying ty = some d) (hd : d.isRow = true) (hi : (P.info? ty).map (·.size) = some cs.size) :
    (loadVar ty ⟨b, 0, none⟩).run P w = .ok (.agg cs) w := by
  have := run_loadVar_mid (P := P) w b 0 ty cs.toList d hc.range hu hd (by simpa using hi)
  simpa using this
end
theorem results_cell_tmp {P : Program} {fn : Func} {tmps : Array Value} {w : World} (p : Nat) (t : TypeId) (q : Nat) (b : Nat) (v : Value) (hres : fn.results = #[.cell p t, .tmp q])
    (hp : tmps.getD p undef = .pointer (some ⟨b, 0, none⟩)) (hl : (loadVar t ⟨b, 0, none⟩).run P w = .ok v w) : (results fn tmps).run P w = .ok (.tuple #[v, tmps.getD q undef]) w := by
  unfold results
  rw [hres]
  have hp' : tmps[p]?.getD undef = .pointer (some ⟨b, 0, none⟩) := by rw [← hp, Array.getD_eq_getD_getElem?]
  simp [asAddr, hp', hl, Array.mapM_eq_foldlM]
theorem results_cell {P : Program} {fn : Func} {tmps : Array Value} {w : World} (p : Nat) (t : TypeId) (b : Nat) (v : Value) (hres : fn.results = #[.cell p t])
    (hp : tmps.getD p undef = .pointer (some ⟨b, 0, none⟩)) (hl : (loadVar t ⟨b, 0, none⟩).run P w = .ok v w) : (results fn tmps).run P w = .ok v w := by
  unfold results
  rw [hres]
  have hp' : tmps[p]?.getD undef = .pointer (some ⟨b, 0, none⟩) := by rw [← hp, Array.getD_eq_getD_getElem?]
  simp [asAddr, hp', hl, Array.mapM_eq_foldlM]
end Go.Proofs.Ythionipmohbnhaa
namespace Go.Proofs.Ythionipmohbnhaa
theorem ext_getD {α : Type} (a b : List α) (d : α) (hl : a.length = b.length) (h : ∀ i, i < a.length → a.getD i d = b.getD i d) : a = b := by
  refine List.ext_getElem hl fun i h1 h2 => ?_
  have := h i h1
  simpa [List.getD_eq_getElem?_getD, h1, h2] using this
def validA (v : Bool) (bs : List Nat) : Prop := v = true ∨ ∀ i, 4 ≤ i → i < 16 → bs.getD i 0 = 0
theorem list16 (bs : List Nat) (h : bs.length = 16) : ∃ b0 b1 b2 b3 b4 b5 b6 b7 b8 b9 b10 b11 b12 b13 b14 b15, bs = [b0, b1, b2, b3, b4, b5, b6, b7, b8, b9, b10, b11, b12, b13, b14, b15] := by
  match bs, h with
  | [b0, b1, b2, b3, b4, b5, b6, b7, b8, b9, b10, b11, b12, b13, b14, b15], _ => exact ⟨b0, b1, b2, b3, b4, b5, b6, b7, b8, b9, b10, b11, b12, b13, b14, b15, rfl⟩
def vldA (v : Bool) (bs : List Nat) : Bool := v || (List.range 12).all fun i => bs.getD (4 + i) 0 == 0
theorem vldA_spec {v : Bool} {bs : List Nat} : vldA v bs = true ↔ validA v bs := by
  unfold vldA validA
  rw [Bool.or_eq_true, List.all_eq_true]
  constructor
  · rintro (h | h)
    · exact .inl h
    · refine .inr fun i h1 h2 => ?_
      have := h (i - 4) (List.mem_range.2 (by omega))
      rw [show 4 + (i - 4) = i by omega] at this
      simpa using this
  · rintro (h | h)
    · exact .inl h
    · exact .inr fun i hi => by simpa using h (4 + i) (by omega) (by have := List.mem_range.1 hi; omega)
end Go.Proofs.Ythionipmohbnhaa
namespace Go.Proofs.Ythionipmohbnhaa
open Go.RowKit
def cellsA (v : Bool) (bs : List Nat) : Array Value := (Value.bool v :: bs.map fun n : Nat => Value.int .u8 (n : Int)).toArray
def adr (v : Bool) (bs : List Nat) : Value := .agg (cellsA v bs)
theorem cellsA_size (v : Bool) (bs : List Nat) : (cellsA v bs).size = bs.length + 1 := by simp [cellsA]
theorem cellsA_all (v : Bool) (bs : List Nat) : (cellsA v bs).all (·.oneCell') = true :=
  Array.all_eq_true_iff_forall_mem.2 (by
    intro x hx
    simp [cellsA] at hx
    rcases hx with rfl | ⟨n, _, rfl⟩ <;> rfl)
theorem cellsA_get (v : Bool) (bs : List Nat) (i : Nat) (h : i < bs.length) : (cellsA v bs)[1 + i]? = some (.int .u8 ((bs.getD i 0 : Nat) : Int)) := by
  simp [cellsA, Nat.add_comm 1 i, h]
theorem cellsA_set (v : Bool) (bs : List Nat) (i n : Nat) : (cellsA v bs).setIfInBounds (1 + i) (.int .u8 (n : Int)) = cellsA v (bs.set i n) := by
  simp [cellsA, Nat.add_comm 1 i, List.map_set]
theorem set_zeros (ns : List Nat) (m n : Nat) (h : 0 < m) : (ns ++ List.replicate m 0).set ns.length n = (ns ++ [n]) ++ List.replicate (m - 1) 0 := by
  obtain ⟨q, rfl⟩ : ∃ q, m = q + 1 := ⟨m - 1, by omega⟩
  rw [List.set_append_right _ _ (Nat.le_refl _), Nat.sub_self]
  simp [List.replicate_succ]
theorem i24 : (Try.prog.info? 25).map (·.size) = some 17 := by kernel_rfl
end Go.Proofs.Ythionipmohbnhaa
namespace Go.Proofs.Ythionipmohbnhaa
open Go.RowKit Go.Lib
theorem splice_at (v : Bool) (bs : List Nat) (_h : bs.length ≤ 16) : (splice (cellsA v (List.replicate 16 0)).toList 1 (nus .u8 bs)).toArray = cellsA v (bs ++ List.replicate (16 - bs.length) 0) := by
  have e : (cellsA v (List.replicate 16 0)).toList = Value.bool v :: List.replicate 16 (Value.int .u8 0) := by simp [cellsA]
  rw [e]
  unfold splice cellsA
  rw [nus_length, Nat.add_comm 1 bs.length, List.drop_succ_cons, List.drop_replicate, List.take_succ_cons, List.take_zero]
  simp [nus]
theorem info5_size : (Try.prog.info? 5).map (·.size) = some 1 := by kernel_rfl
end Go.Proofs.Ythionipmohbnhaa
namespace Go.Proofs.Ythionipmohbnhaa
open Go.Shelf
def Try.laysSlK4_ren : Go.Shelf.Ren := ⟨fun | 4 => 55 | n => n, fun | 22 => 22 | 4 => 4 | 5 => 5 | n => n, fun | n => n⟩
theorem Try.laysSlK4 : Go.Proofs.SlLaysK.n4 Try.prog Try.laysSlK4_ren := {
  mixed := by kernel_rfl
  f4 := Try.func55.trans (congrArg some (by kernel_rfl))
  t4 := Try.underlying4
  a4 := Try.isAgg4
  z4 := Try.sizeOf4
  v4 := Try.zeroValue4
  t22 := Try.underlying22
  a22 := Try.isAgg22
  z22 := Try.sizeOf22
  v22 := Try.zeroValue22
  t5 := Try.underlying5
  i5 := by kernel_rfl }
open Go.RowKit Go.Lib in
theorem Try.bytes_Clone_at (a : Addr) (n c : Nat) (xs : List Int) (w : World) (hx : xs.length = n) (hbig : n ≤ 140737488355328) (hc : ∀ i, i < n → w.cell? (a.add i) = some (.int .u8 (xs.getD i 0))) :
    Calls Try.prog 55 #[.slice (some a) n c] w fun e w' => ∃ v', e = .returned v' ∧ w'.ownsRow w.heap.size 5 1 v' n (xs.map (Value.int .u8)) ∧ v' ≠ .slice none 0 0 ∧ Below w.heap.size w w' := Any.bytes_Clone_at Try.laysSlK4 a n c xs w hx hbig hc
end Go.Proofs.Ythionipmohbnhaa
namespace Go.Proofs.Ythionipmohbnhaa
open Go.RowKit
theorem own_lit (w : World) (k : IntKind) (e : TypeId) (zs : List Nat) (n base : Nat) (hn : zs.length = n) (hm : n ≤ maxLen) (hb : base ≤ w.heap.size) :
    (w.alloc (.cells (nus k zs).toArray e)).ownsRow base e 1 (.slice (some ⟨w.heap.size, 0, none⟩) n n) n (nus k zs) :=
  own_of_heap (World.alloc_heap_new w _) hb (by rw [nus_length]; exact hn) hm
theorem rd_lit (w : World) (k : IntKind) (e : TypeId) (zs : List Nat) (n : Nat) (m : Nat × Nat) (hn : zs.length = n) (hm : n ≤ maxLen) :
    Rd (w.alloc (.cells (nus k zs).toArray e m)) (.slice (some ⟨w.heap.size, 0, none⟩) n n) (nus k zs) := by
  subst hn
  refine ⟨_, _, by rw [nus_length], by rw [nus_length]; exact Nat.le_refl _, hm, .inr ⟨_, _, rfl, by simp, fun i hi => ?_⟩⟩
  rw [Nat.zero_add, cell_of_row _ _ i (nus k zs).toArray e m (World.alloc_heap_new w _)]
  simp
theorem row_under {w w' : World} {base : Nat} {e : TypeId} {v : Value} {n : Nat} {xs : List Value} (h : w.ownsRow base e 1 v n xs) (hb : Below w.heap.size w w') : w'.ownsRow base e 1 v n xs := by
  obtain ⟨h1, h2⟩ := h
  refine ⟨h1, ?_⟩
  rcases h2 with h2 | ⟨g, cap', cur, rfl, hh, h4, hn, hm, h5⟩
  · exact .inl h2
  · refine .inr ⟨g, cap', cur, rfl, hh, ?_, hn, hm, h5⟩
    have hg : g < w.heap.size := (Array.getElem?_eq_some_iff.1 h4).1
    rw [hb.block g hg]; exact h4
theorem own_low {w : World} {b1 b2 : Nat} {e : TypeId} {v : Value} {n : Nat} {xs : List Value} (hb : b1 ≤ b2) (h : w.ownsRow b2 e 1 v n xs) : w.ownsRow b1 e 1 v n xs := by
  obtain ⟨h1, h2⟩ := h
  refine ⟨h1, ?_⟩
  rcases h2 with h2 | ⟨g, cap', cur, rfl, hh, h4⟩
  · exact .inl h2
  · exact .inr ⟨g, cap', cur, rfl, Nat.le_trans hb hh, h4⟩
theorem own_apart {w w' : World} {base g : Nat} {e : TypeId} {v : Value} {n : Nat} {xs : List Value} (h : w.ownsRow base e 1 v n xs) (hg : w.grownBy w' (some g)) (h0 : g < base) : w'.ownsRow base e 1 v n xs := by
  obtain ⟨h1, h2⟩ := h
  refine ⟨h1, ?_⟩
  rcases h2 with h2 | ⟨k, cap', cur, rfl, hh, h4, hn, hm, h5⟩
  · exact .inl h2
  · have hk : k < w.heap.size := (Array.getElem?_eq_some_iff.1 h4).1
    exact .inr ⟨k, cap', cur, rfl, hh, (hg.block k hk (by simp; omega)).trans h4, hn, hm, h5⟩
end Go.Proofs.Ythionipmohbnhaa
namespace Go.Proofs.Ythionipmohbnhaa
open Go.RowKit Go.Lib
set_option maxHeartbeats 1000000 in
theorem bytes_six (b0 b1 b2 b3 b4 b5 b6 b7 b8 b9 b10 b11 b12 b13 b14 b15 : Nat) (w : World) :
    Calls Try.prog 56 #[.agg #[.bool true, .int .u8 (b0 : Int), .int .u8 (b1 : Int), .int .u8 (b2 : Int), .int .u8 (b3 : Int), .int .u8 (b4 : Int), .int .u8 (b5 : Int), .int .u8 (b6 : Int), .int .u8 (b7 : Int), .int .u8 (b8 : Int), .int .u8 (b9 : Int), .int .u8 (b10 : Int), .int .u8 (b11 : Int), .int .u8 (b12 : Int), .int .u8 (b13 : Int), .int .u8 (b14 : Int), .int .u8 (b15 : Int)]] w fun e w' => ∃ v, e = .returned v ∧ w'.ownsRow w.heap.size 5 1 v 16 (nus .u8 [b0, b1, b2, b3, b4, b5, b6, b7, b8, b9, b10, b11, b12, b13, b14, b15]) ∧ Below w.heap.size w w' := by
  have hb := Blk.new w 25 #[.bool true, .int .u8 (b0 : Int), .int .u8 (b1 : Int), .int .u8 (b2 : Int), .int .u8 (b3 : Int), .int .u8 (b4 : Int), .int .u8 (b5 : Int), .int .u8 (b6 : Int), .int .u8 (b7 : Int), .int .u8 (b8 : Int), .int .u8 (b9 : Int), .int .u8 (b10 : Int), .int .u8 (b11 : Int), .int .u8 (b12 : Int), .int .u8 (b13 : Int), .int .u8 (b14 : Int), .int .u8 (b15 : Int)]
  have C := Lib.hid (Try.bytes_Clone_at ⟨w.heap.size, 1, none⟩ 16 16 ([b0, b1, b2, b3, b4, b5, b6, b7, b8, b9, b10, b11, b12, b13, b14, b15].map fun n : Nat => (n : Int)) (w.alloc (.cells #[.bool true, .int .u8 (b0 : Int), .int .u8 (b1 : Int), .int .u8 (b2 : Int), .int .u8 (b3 : Int), .int .u8 (b4 : Int), .int .u8 (b5 : Int), .int .u8 (b6 : Int), .int .u8 (b7 : Int), .int .u8 (b8 : Int), .int .u8 (b9 : Int), .int .u8 (b10 : Int), .int .u8 (b11 : Int), .int .u8 (b12 : Int), .int .u8 (b13 : Int), .int .u8 (b14 : Int), .int .u8 (b15 : Int)] 25)) rfl (by omega) (fun i hi => by
    rw [Addr.add_mid, hb.cell (1 + i)]
    have h : i = 0 ∨ i = 1 ∨ i = 2 ∨ i = 3 ∨ i = 4 ∨ i = 5 ∨ i = 6 ∨ i = 7 ∨ i = 8 ∨ i = 9 ∨ i = 10 ∨ i = 11 ∨ i = 12 ∨ i = 13 ∨ i = 14 ∨ i = 15 := by omega
    rcases h with rfl | rfl | rfl | rfl | rfl | rfl | rfl | rfl | rfl | rfl | rfl | rfl | rfl | rfl | rfl | rfl <;> rfl))
  clear hb
  go_enter Try.func56, Try.ntmps56
  go_wp2_with (go_at_call 55; refine C.out.mono ?_; rintro e w1 ⟨v, rfl, ho, hn, hb1⟩)
  go_ret
  refine ⟨v, rfl, (by have h9 := own_low (b1 := w.heap.size) (by simp) ho; simpa [nus] using h9), ((Below.refl _ w).alloc (Nat.le_refl _) _).trans (hb1.mono (by simp))⟩
set_option maxHeartbeats 1000000 in
theorem bytes_four (b0 b1 b2 b3 b4 b5 b6 b7 b8 b9 b10 b11 b12 b13 b14 b15 : Nat) (w : World) :
    Calls Try.prog 56 #[.agg #[.bool false, .int .u8 (b0 : Int), .int .u8 (b1 : Int), .int .u8 (b2 : Int), .int .u8 (b3 : Int), .int .u8 (b4 : Int), .int .u8 (b5 : Int), .int .u8 (b6 : Int), .int .u8 (b7 : Int), .int .u8 (b8 : Int), .int .u8 (b9 : Int), .int .u8 (b10 : Int), .int .u8 (b11 : Int), .int .u8 (b12 : Int), .int .u8 (b13 : Int), .int .u8 (b14 : Int), .int .u8 (b15 : Int)]] w fun e w' => ∃ v, e = .returned v ∧ w'.ownsRow w.heap.size 5 1 v 4 (nus .u8 [b0, b1, b2, b3]) ∧ Below w.heap.size w w' := by
  have hb := Blk.new w 25 #[.bool false, .int .u8 (b0 : Int), .int .u8 (b1 : Int), .int .u8 (b2 : Int), .int .u8 (b3 : Int), .int .u8 (b4 : Int), .int .u8 (b5 : Int), .int .u8 (b6 : Int), .int .u8 (b7 : Int), .int .u8 (b8 : Int), .int .u8 (b9 : Int), .int .u8 (b10 : Int), .int .u8 (b11 : Int), .int .u8 (b12 : Int), .int .u8 (b13 : Int), .int .u8 (b14 : Int), .int .u8 (b15 : Int)]
  have C := Lib.hid (Try.bytes_Clone_at ⟨w.heap.size, 1, none⟩ 4 16 ([b0, b1, b2, b3].map fun n : Nat => (n : Int)) (w.alloc (.cells #[.bool false, .int .u8 (b0 : Int), .int .u8 (b1 : Int), .int .u8 (b2 : Int), .int .u8 (b3 : Int), .int .u8 (b4 : Int), .int .u8 (b5 : Int), .int .u8 (b6 : Int), .int .u8 (b7 : Int), .int .u8 (b8 : Int), .int .u8 (b9 : Int), .int .u8 (b10 : Int), .int .u8 (b11 : Int), .int .u8 (b12 : Int), .int .u8 (b13 : Int), .int .u8 (b14 : Int), .int .u8 (b15 : Int)] 25)) rfl (by omega) (fun i hi => by
    rw [Addr.add_mid, hb.cell (1 + i)]
    have h : i = 0 ∨ i = 1 ∨ i = 2 ∨ i = 3 := by omega
    rcases h with rfl | rfl | rfl | rfl <;> rfl))
  clear hb
  go_enter Try.func56, Try.ntmps56
  go_wp2_with (go_at_call 55; refine C.out.mono ?_; rintro e w1 ⟨v, rfl, ho, hn, hb1⟩)
  go_ret
  refine ⟨v, rfl, (by have h9 := own_low (b1 := w.heap.size) (by simp) ho; simpa [nus] using h9), ((Below.refl _ w).alloc (Nat.le_refl _) _).trans (hb1.mono (by simp))⟩
end Go.Proofs.Ythionipmohbnhaa
namespace Go.Proofs.Ythionipmohbnhaa
open Go.RowKit Go.Lib
theorem cell17 (v : Bool) (b0 b1 b2 b3 b4 b5 b6 b7 b8 b9 b10 b11 b12 b13 b14 b15 : Nat) (w : World) (k : Nat) (hk : k < 16) :
    (w.alloc (.cells #[.bool v, .int .u8 (b0 : Int), .int .u8 (b1 : Int), .int .u8 (b2 : Int), .int .u8 (b3 : Int), .int .u8 (b4 : Int), .int .u8 (b5 : Int), .int .u8 (b6 : Int), .int .u8 (b7 : Int), .int .u8 (b8 : Int), .int .u8 (b9 : Int), .int .u8 (b10 : Int), .int .u8 (b11 : Int), .int .u8 (b12 : Int), .int .u8 (b13 : Int), .int .u8 (b14 : Int), .int .u8 (b15 : Int)] 25)).cell? ⟨w.heap.size, 1 + k, none⟩ = some (.int .u8 (([b0, b1, b2, b3, b4, b5, b6, b7, b8, b9, b10, b11, b12, b13, b14, b15].getD k 0 : Nat) : Int)) := by
  rw [(Blk.new w 25 #[.bool v, .int .u8 (b0 : Int), .int .u8 (b1 : Int), .int .u8 (b2 : Int), .int .u8 (b3 : Int), .int .u8 (b4 : Int), .int .u8 (b5 : Int), .int .u8 (b6 : Int), .int .u8 (b7 : Int), .int .u8 (b8 : Int), .int .u8 (b9 : Int), .int .u8 (b10 : Int), .int .u8 (b11 : Int), .int .u8 (b12 : Int), .int .u8 (b13 : Int), .int .u8 (b14 : Int), .int .u8 (b15 : Int)]).cell (1 + k)]
  have h : k = 0 ∨ k = 1 ∨ k = 2 ∨ k = 3 ∨ k = 4 ∨ k = 5 ∨ k = 6 ∨ k = 7 ∨ k = 8 ∨ k = 9 ∨ k = 10 ∨ k = 11 ∨ k = 12 ∨ k = 13 ∨ k = 14 ∨ k = 15 := by omega
  rcases h with rfl | rfl | rfl | rfl | rfl | rfl | rfl | rfl | rfl | rfl | rfl | rfl | rfl | rfl | rfl | rfl <;> rfl
set_option maxRecDepth 100000 in
set_option maxHeartbeats 1000000 in
theorem ref_valid (v : Bool) (b0 b1 b2 b3 b4 b5 b6 b7 b8 b9 b10 b11 b12 b13 b14 b15 : Nat) (w : World) :
    Calls Try.prog 23 #[.agg #[.bool v, .int .u8 (b0 : Int), .int .u8 (b1 : Int), .int .u8 (b2 : Int), .int .u8 (b3 : Int), .int .u8 (b4 : Int), .int .u8 (b5 : Int), .int .u8 (b6 : Int), .int .u8 (b7 : Int), .int .u8 (b8 : Int), .int .u8 (b9 : Int), .int .u8 (b10 : Int), .int .u8 (b11 : Int), .int .u8 (b12 : Int), .int .u8 (b13 : Int), .int .u8 (b14 : Int), .int .u8 (b15 : Int)]] w fun e w' => e = .returned (.bool (vldA v [b0, b1, b2, b3, b4, b5, b6, b7, b8, b9, b10, b11, b12, b13, b14, b15])) ∧ Below w.heap.size w w' := by
  have hc := cell17 v b0 b1 b2 b3 b4 b5 b6 b7 b8 b9 b10 b11 b12 b13 b14 b15 w
  have hc0 : (w.alloc (.cells #[.bool v, .int .u8 (b0 : Int), .int .u8 (b1 : Int), .int .u8 (b2 : Int), .int .u8 (b3 : Int), .int .u8 (b4 : Int), .int .u8 (b5 : Int), .int .u8 (b6 : Int), .int .u8 (b7 : Int), .int .u8 (b8 : Int), .int .u8 (b9 : Int), .int .u8 (b10 : Int), .int .u8 (b11 : Int), .int .u8 (b12 : Int), .int .u8 (b13 : Int), .int .u8 (b14 : Int), .int .u8 (b15 : Int)] 25)).cell? ⟨w.heap.size, 0, none⟩ = some (.bool v) := (Blk.new w 25 _).cell 0
  obtain ⟨bs, hbs⟩ : ∃ bs, bs = [b0, b1, b2, b3, b4, b5, b6, b7, b8, b9, b10, b11, b12, b13, b14, b15] := ⟨_, rfl⟩
  obtain ⟨W, hW⟩ : ∃ W, W = w.alloc (.cells #[.bool v, .int .u8 (b0 : Int), .int .u8 (b1 : Int), .int .u8 (b2 : Int), .int .u8 (b3 : Int), .int .u8 (b4 : Int), .int .u8 (b5 : Int), .int .u8 (b6 : Int), .int .u8 (b7 : Int), .int .u8 (b8 : Int), .int .u8 (b9 : Int), .int .u8 (b10 : Int), .int .u8 (b11 : Int), .int .u8 (b12 : Int), .int .u8 (b13 : Int), .int .u8 (b14 : Int), .int .u8 (b15 : Int)] 25) := ⟨_, rfl⟩
  have HL := Lib.hid (show Below w.heap.size w W by rw [hW]; exact (Below.refl _ w).alloc (Nat.le_refl _) _)
  rw [← hbs] at hc ⊢
  have HB := Lib.hid hbs
  have HC := Lib.hid hc
  have HC0 := Lib.hid hc0
  clear hbs hc hc0
  go_enter Try.func23, Try.ntmps23
  go_wp2
  rw [← hW]
  rw [← hW] at HC HC0
  clear hW
  go_loop [3] (fun i => ∃ k : Nat, 4 ≤ k ∧ k ≤ 16 ∧ i = .int .i64 k ∧ Hid (v = true ∨ ∀ j, 4 ≤ j → j < k → bs.getD j 0 = 0)) (fun i => 16 - (RowKit.intOf i).toNat)
  case atStart => exact ⟨4, by omega, by omega, rfl, Lib.hid (.inr fun j h1 h2 => by omega)⟩
  case round =>
    obtain ⟨k, hk4, hk16, rfl, hall⟩ := hrel
    by_cases hlt : k < 16
    · have hck := HC.out k hlt
      have hcv := HC0.out
      obtain ⟨x, hx⟩ : ∃ x, x = bs.getD k 0 := ⟨_, rfl⟩
      rw [← hx] at hck
      have HX := Lib.hid hx
      clear hx
      cases v with
      | true =>
        go_wp2
        go_round
        case rel => exact ⟨k + 1, by omega, by omega, by go_num, Lib.hid (by simp)⟩
        case measure => simp [RowKit.intOf]; omega
      | false =>
        by_cases h0 : x = 0
        · subst h0
          go_wp2
          go_round
          case rel =>
            refine ⟨k + 1, by omega, by omega, by go_num, Lib.hid (.inr fun j h1 h2 => ?_)⟩
            by_cases hj : j = k
            · rw [hj]; exact HX.out.symm
            · rcases hall.out with h | h
              · cases h
              · exact h j h1 (by omega)
          case measure => simp [RowKit.intOf]; omega
        · have hne : ((x : Int) != 0) = true := by rw [bne_iff_ne]; omega
          have HV := Lib.hid (show vldA false bs = false by
            rcases hq : vldA false bs with _ | _
            · rfl
            · rcases vldA_spec.1 hq with h | h
              · cases h
              · exact absurd (HX.out.trans (h k hk4 hlt)) h0)
          clear h0
          go_wp2
          go_ret
          exact ⟨by rw [HV.out]; rfl, HL.out⟩
    · have HV := Lib.hid (show vldA v bs = true from vldA_spec.2 (by
        rcases hall.out with h | h
        · exact .inl h
        · exact .inr fun i h1 h2 => h i h1 (by omega)))
      go_wp2
      go_ret
      exact ⟨by rw [HV.out]; rfl, HL.out⟩
end Go.Proofs.Ythionipmohbnhaa
namespace Go.Proofs.Ythionipmohbnhaa
open Go.RowKit
theorem wf_byte : ∀ n : Fin 256, (Lit.int .u8 (n.1 : Int)).wf = true := by decide +kernel
theorem key5 (d n : Nat) (h : n < 256) : Try.prog.keyLits (d + 1) 5 [.int .u8 (n : Int)] = some [.int .u8 (n : Int)] := by
  unfold Program.keyLits
  rw [Try.underlying5]
  simp [wf_byte ⟨n, h⟩]
theorem key22 (d : Nat) (b0 b1 b2 b3 b4 b5 b6 b7 b8 b9 b10 b11 b12 b13 b14 b15 : Nat) (hb : ∀ n ∈ [b0, b1, b2, b3, b4, b5, b6, b7, b8, b9, b10, b11, b12, b13, b14, b15], n < 256) : Try.prog.keyLits (d + 2) 23 [.int .u8 (b0 : Int), .int .u8 (b1 : Int), .int .u8 (b2 : Int), .int .u8 (b3 : Int), .int .u8 (b4 : Int), .int .u8 (b5 : Int), .int .u8 (b6 : Int), .int .u8 (b7 : Int), .int .u8 (b8 : Int), .int .u8 (b9 : Int), .int .u8 (b10 : Int), .int .u8 (b11 : Int), .int .u8 (b12 : Int), .int .u8 (b13 : Int), .int .u8 (b14 : Int), .int .u8 (b15 : Int)] = some [.int .u8 (b0 : Int), .int .u8 (b1 : Int), .int .u8 (b2 : Int), .int .u8 (b3 : Int), .int .u8 (b4 : Int), .int .u8 (b5 : Int), .int .u8 (b6 : Int), .int .u8 (b7 : Int), .int .u8 (b8 : Int), .int .u8 (b9 : Int), .int .u8 (b10 : Int), .int .u8 (b11 : Int), .int .u8 (b12 : Int), .int .u8 (b13 : Int), .int .u8 (b14 : Int), .int .u8 (b15 : Int)] := by
  unfold Program.keyLits
  rw [Try.underlying23]
  have hc : Try.prog.cellsOf 5 = 1 := by kernel_rfl
  have hc2 : Try.prog.cellsOf 23 = 16 := by kernel_rfl
  simp only [List.mem_cons, List.not_mem_nil, or_false, forall_eq_or_imp, forall_eq] at hb
  obtain ⟨h0, h1, h2, h3, h4, h5, h6, h7, h8, h9, h10, h11, h12, h13, h14, h15⟩ := hb
  simp [hc, hc2, List.range_succ, key5 d b0 h0, key5 d b1 h1, key5 d b2 h2, key5 d b3 h3, key5 d b4 h4, key5 d b5 h5, key5 d b6 h6, key5 d b7 h7, key5 d b8 h8, key5 d b9 h9, key5 d b10 h10, key5 d b11 h11, key5 d b12 h12, key5 d b13 h13, key5 d b14 h14, key5 d b15 h15]
theorem key24 : Try.prog.keyTypeAt 3 25 = true := by kernel_rfl
theorem formed24 (v : Bool) (b0 b1 b2 b3 b4 b5 b6 b7 b8 b9 b10 b11 b12 b13 b14 b15 : Nat) : (Value.agg #[.bool v, .int .u8 (b0 : Int), .int .u8 (b1 : Int), .int .u8 (b2 : Int), .int .u8 (b3 : Int), .int .u8 (b4 : Int), .int .u8 (b5 : Int), .int .u8 (b6 : Int), .int .u8 (b7 : Int), .int .u8 (b8 : Int), .int .u8 (b9 : Int), .int .u8 (b10 : Int), .int .u8 (b11 : Int), .int .u8 (b12 : Int), .int .u8 (b13 : Int), .int .u8 (b14 : Int), .int .u8 (b15 : Int)]).formed Try.prog 25 = true := by kernel_rfl
theorem lits24 (v : Bool) (b0 b1 b2 b3 b4 b5 b6 b7 b8 b9 b10 b11 b12 b13 b14 b15 : Nat) (hb : ∀ n ∈ [b0, b1, b2, b3, b4, b5, b6, b7, b8, b9, b10, b11, b12, b13, b14, b15], n < 256) : Try.prog.keyLits 3 25 [.bool v, .int .u8 (b0 : Int), .int .u8 (b1 : Int), .int .u8 (b2 : Int), .int .u8 (b3 : Int), .int .u8 (b4 : Int), .int .u8 (b5 : Int), .int .u8 (b6 : Int), .int .u8 (b7 : Int), .int .u8 (b8 : Int), .int .u8 (b9 : Int), .int .u8 (b10 : Int), .int .u8 (b11 : Int), .int .u8 (b12 : Int), .int .u8 (b13 : Int), .int .u8 (b14 : Int), .int .u8 (b15 : Int)] = some [.bool v, .int .u8 (b0 : Int), .int .u8 (b1 : Int), .int .u8 (b2 : Int), .int .u8 (b3 : Int), .int .u8 (b4 : Int), .int .u8 (b5 : Int), .int .u8 (b6 : Int), .int .u8 (b7 : Int), .int .u8 (b8 : Int), .int .u8 (b9 : Int), .int .u8 (b10 : Int), .int .u8 (b11 : Int), .int .u8 (b12 : Int), .int .u8 (b13 : Int), .int .u8 (b14 : Int), .int .u8 (b15 : Int)] := by
  unfold Program.keyLits
  rw [Try.underlying25]
  have hc : Try.prog.cellsOf 4 = 1 := by kernel_rfl
  have hc2 : Try.prog.cellsOf 23 = 16 := by kernel_rfl
  have hc3 : Try.prog.cellsOf 25 = 17 := by kernel_rfl
  have h4 : Try.prog.keyLits 2 4 [.bool v] = some [.bool v] := by unfold Program.keyLits; rw [Try.underlying4]
  simp [hc, hc2, hc3, h4, key22 0 b0 b1 b2 b3 b4 b5 b6 b7 b8 b9 b10 b11 b12 b13 b14 b15 hb]
theorem eq_same (v : Bool) (b0 b1 b2 b3 b4 b5 b6 b7 b8 b9 b10 b11 b12 b13 b14 b15 : Nat) (hb : ∀ n ∈ [b0, b1, b2, b3, b4, b5, b6, b7, b8, b9, b10, b11, b12, b13, b14, b15], n < 256) (w : World) :
    (Op.equalIn 10000 25 (.agg #[.bool v, .int .u8 (b0 : Int), .int .u8 (b1 : Int), .int .u8 (b2 : Int), .int .u8 (b3 : Int), .int .u8 (b4 : Int), .int .u8 (b5 : Int), .int .u8 (b6 : Int), .int .u8 (b7 : Int), .int .u8 (b8 : Int), .int .u8 (b9 : Int), .int .u8 (b10 : Int), .int .u8 (b11 : Int), .int .u8 (b12 : Int), .int .u8 (b13 : Int), .int .u8 (b14 : Int), .int .u8 (b15 : Int)]) (.agg #[.bool v, .int .u8 (b0 : Int), .int .u8 (b1 : Int), .int .u8 (b2 : Int), .int .u8 (b3 : Int), .int .u8 (b4 : Int), .int .u8 (b5 : Int), .int .u8 (b6 : Int), .int .u8 (b7 : Int), .int .u8 (b8 : Int), .int .u8 (b9 : Int), .int .u8 (b10 : Int), .int .u8 (b11 : Int), .int .u8 (b12 : Int), .int .u8 (b13 : Int), .int .u8 (b14 : Int), .int .u8 (b15 : Int)])).run Try.prog w = .ok true w := by
  obtain ⟨r, hr, he⟩ := run_equalIn_deep (P := Try.prog) 9997 3 25 key24 w 3 3 _ _ _ _ (formed24 v b0 b1 b2 b3 b4 b5 b6 b7 b8 b9 b10 b11 b12 b13 b14 b15) (formed24 v b0 b1 b2 b3 b4 b5 b6 b7 b8 b9 b10 b11 b12 b13 b14 b15) (lits24 v b0 b1 b2 b3 b4 b5 b6 b7 b8 b9 b10 b11 b12 b13 b14 b15 hb) (lits24 v b0 b1 b2 b3 b4 b5 b6 b7 b8 b9 b10 b11 b12 b13 b14 b15 hb)
  have e : r = true := he.2 rfl
  subst e
  exact hr
end Go.Proofs.Ythionipmohbnhaa
namespace Go.Proofs.Ythionipmohbnhaa
open Go.RowKit Go.Lib
theorem ref_adr (v : Bool) (bs : List Nat) (hl : bs.length = 16) (w : World) :
    Calls Try.prog 23 #[adr v bs] w fun e w' => e = .returned (.bool (vldA v bs)) ∧ Below w.heap.size w w' := by
  obtain ⟨b0, b1, b2, b3, b4, b5, b6, b7, b8, b9, b10, b11, b12, b13, b14, b15, rfl⟩ := list16 bs hl
  exact ref_valid v b0 b1 b2 b3 b4 b5 b6 b7 b8 b9 b10 b11 b12 b13 b14 b15 w
def bytesA (v : Bool) (bs : List Nat) : List Nat := if v then bs else bs.take 4
theorem bytes_own (v : Bool) (bs : List Nat) (hl : bs.length = 16) (w : World) :
    Calls Try.prog 56 #[adr v bs] w fun e w' => ∃ z, e = .returned z ∧ w'.ownsRow w.heap.size 5 1 z (bytesA v bs).length (nus .u8 (bytesA v bs)) ∧ Below w.heap.size w w' := by
  obtain ⟨b0, b1, b2, b3, b4, b5, b6, b7, b8, b9, b10, b11, b12, b13, b14, b15, rfl⟩ := list16 bs hl
  cases v with
  | true => exact bytes_six b0 b1 b2 b3 b4 b5 b6 b7 b8 b9 b10 b11 b12 b13 b14 b15 w
  | false => exact bytes_four b0 b1 b2 b3 b4 b5 b6 b7 b8 b9 b10 b11 b12 b13 b14 b15 w
end Go.Proofs.Ythionipmohbnhaa
namespace Go.Proofs.Ythionipmohbnhaa
open Go.RowKit
def a4 (bs : List Nat) : Array Value := cellsA false (bs ++ List.replicate (16 - bs.length) 0)
theorem a4_size (bs : List Nat) (h : bs.length ≤ 16) : (a4 bs).size = 17 := by
  unfold a4; rw [cellsA_size, List.length_append, List.length_replicate]; omega
theorem a4_all (bs : List Nat) : (a4 bs).all (·.oneCell') = true := cellsA_all _ _
def hcells (s l p : Nat) (S D : Array Value) : Array Value := (Value.int .i64 (s : Int) :: .int .i64 (l : Int) :: .int .u8 (p : Int) :: (S.toList ++ D.toList)).toArray
theorem hcells_size (s l p : Nat) (S D : Array Value) (hS : S.size = 17) (hD : D.size = 17) : (hcells s l p S D).size = 37 := by
  simp [hcells, hS, hD]
theorem hcells_all (s l p : Nat) (S D : Array Value) (hS : S.all (·.oneCell') = true) (hD : D.all (·.oneCell') = true) : (hcells s l p S D).all (·.oneCell') = true := by
  rw [Array.all_eq_true_iff_forall_mem] at *
  intro x hx
  simp only [hcells, List.mem_toArray, List.mem_cons, List.mem_append, Array.mem_toList_iff] at hx
  rcases hx with rfl | rfl | rfl | h | h
  · rfl
  · rfl
  · rfl
  · exact hS x h
  · exact hD x h
def h0 : Array Value := hcells 0 0 0 (a4 [0, 0, 0, 0]) (a4 [0, 0, 0, 0])
theorem h0_size : h0.size = 37 := rfl
theorem h0_all : h0.all (·.oneCell') = true := hcells_all _ _ _ _ _ (a4_all _) (a4_all _)
theorem arr17 (c : Array Value) (h : c.size = 17) : ∃ x0 x1 x2 x3 x4 x5 x6 x7 x8 x9 x10 x11 x12 x13 x14 x15 x16, c = #[x0, x1, x2, x3, x4, x5, x6, x7, x8, x9, x10, x11, x12, x13, x14, x15, x16] := by
  obtain ⟨l⟩ := c
  match l, h with
  | [x0, x1, x2, x3, x4, x5, x6, x7, x8, x9, x10, x11, x12, x13, x14, x15, x16], _ => exact ⟨x0, x1, x2, x3, x4, x5, x6, x7, x8, x9, x10, x11, x12, x13, x14, x15, x16, rfl⟩
end Go.Proofs.Ythionipmohbnhaa
namespace Go.Proofs.Ythionipmohbnhaa
open Go.RowKit Go.Sort
theorem still_load {P : Program} {w : World} {K : Act → Prop} {o : Oper} {a : Act} (ty : TypeId) (x : Operand) (ho : o.op = .load ty x) (p : Addr) (hx : a.eval x = .pointer (some p)) (v : Value)
    (hl : (loadVar ty p).run P w = .ok v w) (h : K (a.put o.dst v)) : o.still P a w K := by
  unfold Oper.still execOp
  simp only [ho, hx, Instr.loadAt, Instr.sureAddr, Sem.run_bind, Sem.run_pure, Result.andThen_ok, hl]
  exact ⟨rfl, h⟩
theorem still_build {P : Program} {w : World} {K : Act → Prop} {o : Oper} {a : Act} (t : TypeId) (parts : Array (Nat × Operand)) (ho : o.op = .build t parts) (cells : Array Value)
    (hf : P.built t (parts.map fun (i, x) => (i, a.eval x)).toList = some cells) (h : K (a.put o.dst (.agg cells))) : o.still P a w K := by
  unfold Oper.still execOp
  simp only [ho, Sem.run_bind, run_build w t _ cells hf, Result.andThen_ok]
  exact ⟨rfl, h⟩
theorem still_build2 {P : Program} {w : World} {K : Act → Prop} {o : Oper} {a : Act} (t : TypeId) (parts : Array (Nat × Operand)) (ho : o.op = .build t parts) (vals : Array (Nat × Value)) (hv : (parts.map fun (i, x) => (i, a.eval x)) = vals) (cells : Array Value)
    (hf : P.built t vals.toList = some cells) (h : K (a.put o.dst (.agg cells))) : o.still P a w K :=
  still_build t parts ho cells (by rw [hv]; exact hf) h
theorem exec_load {P : Program} {w : World} {o : Oper} {a : Act} (ty : TypeId) (x : Operand) (ho : o.op = .load ty x) (p : Addr) (hx : a.eval x = .pointer (some p)) (v : Value)
    (hl : (loadVar ty p).run P w = .ok v w) : (execOp a.eval o).run P w = .ok (.value v) w := by
  unfold execOp
  simp only [ho, hx, Instr.loadAt, Instr.sureAddr, Sem.run_bind, Sem.run_pure, Result.andThen_ok, hl]
theorem exec_build {P : Program} {w : World} {o : Oper} {a : Act} (t : TypeId) (parts : Array (Nat × Operand)) (ho : o.op = .build t parts) (vals : Array (Nat × Value)) (hv : (parts.map fun (i, x) => (i, a.eval x)) = vals) (cells : Array Value)
    (hf : P.built t vals.toList = some cells) : (execOp a.eval o).run P w = .ok (.value (.agg cells)) w := by
  subst hv
  unfold execOp
  simp only [ho, Sem.run_bind, run_build w t _ cells hf, Result.andThen_ok, Sem.run_pure]
theorem run_part_load {P : Program} {w : World} {g : Nat} {t : TypeId} {cs : Array Value} (ty : TypeId) (off : Nat) (ps : List Value) (d : TypeDesc) (hc : Blk w g t cs) (hp : (cs.toList.drop off).take ps.length = ps) (hu : P.underlying ty = some d) (hd : d.isRow = true) (hi : (P.info? ty).map (·.size) = some ps.length) :
    (loadVar ty ⟨g, off, none⟩).run P w = .ok (.agg ps.toArray) w :=
  run_loadVar_mid (P := P) w g off ty ps d (fun j v hj => by
    rw [hc.cell (off + j), ← Array.getElem?_toList, ← List.getElem?_drop]
    have hjl : j < ps.length := (List.getElem?_eq_some_iff.1 hj).1
    rw [← List.getElem?_take_of_lt hjl, hp]; exact hj) hu hd hi
end Go.Proofs.Ythionipmohbnhaa
namespace Go.Proofs.Ythionipmohbnhaa
open Go.RowKit
def hd (zs : List Nat) : Array Value := if ff zs = 0 then hcells (hs zs) (u2 zs 2) (zs.getD 9 0) (a4 ((zs.drop 12).take 4)) (a4 ((zs.drop 16).take 4)) else h0
theorem ff_yes (zs : List Nat) (h : ff zs = 0) : 20 ≤ zs.length ∧ zs.getD 0 0 / 16 = 4 ∧ 20 ≤ hs zs ∧ hs zs ≤ u2 zs 2 ∧ u2 zs 2 ≤ zs.length ∧ ck (zs.take (hs zs)) = 0 ∧ u2 zs 6 % 16384 = 0 ∧ (zs.getD 9 0 = 6 ∨ zs.getD 9 0 = 17) := by
  unfold ff at h
  repeat' split at h
  all_goals omega
end Go.Proofs.Ythionipmohbnhaa
namespace Go.Proofs.Ythionipmohbnhaa
open Go.RowKit
theorem fill_set (v : Bool) (bs : List Nat) (k : Nat) (h : k < bs.length) (h2 : bs.length ≤ 16) :
    (cellsA v (bs.take k ++ List.replicate (16 - k) 0)).setIfInBounds (1 + k) (.int .u8 ((bs.getD k 0 : Nat) : Int)) = cellsA v (bs.take (k + 1) ++ List.replicate (16 - (k + 1)) 0) := by
  have hl : (bs.take k).length = k := by simp; omega
  have h1 := set_zeros (bs.take k) (16 - k) (bs.getD k 0) (by omega)
  rw [hl] at h1
  rw [cellsA_set, h1, List.take_succ_eq_append_getElem h, show 16 - k - 1 = 16 - (k + 1) from by omega]
  simp [List.getD_eq_getElem?_getD, List.getElem?_eq_getElem h]
structure InF (w : World) (v : Bool) (bs : List Nat) (k : Nat) (wr : World) : Prop where
  le : k ≤ bs.length
  out : Blk wr w.heap.size 25 (cellsA false (List.replicate 16 0))
  own : Blk wr (w.heap.size + 1) 25 (cellsA v (bs.take k ++ List.replicate (16 - k) 0))
  low : Below w.heap.size w wr
theorem rj25 : (Try.prog.info? 25).map (·.size) = some 17 := by kernel_rfl
set_option maxRecDepth 100000 in
set_option maxHeartbeats 2000000 in
theorem rfrom_ok (va : Value) (v : Bool) (bs : List Nat) (w : World) (hr : Rd w va (nus .u8 bs)) (h : bs.length = 4 ∧ v = false ∨ bs.length = 16 ∧ v = true) :
    Calls Try.prog 49 #[va] w fun e w' => e = .returned (.tuple #[adr v (bs ++ List.replicate (16 - bs.length) 0), .int .i64 0]) ∧ Below w.heap.size w w' := by
  obtain ⟨a, cap, rfl, hlc, hcm⟩ := rd_shape hr
  obtain ⟨b, off, rfl, hc⟩ := hr.cells (by omega)
  have hstart : InF w v bs 0 ((w.alloc (.cells (cellsA false (List.replicate 16 0)) 25)).alloc (.cells (cellsA v (List.replicate 16 0)) 25)) := by
    have hn := Blk.new (w.alloc (.cells (cellsA false (List.replicate 16 0)) 25)) 25 (cellsA v (List.replicate 16 0))
    rw [World.size_alloc] at hn
    exact ⟨Nat.zero_le _, (Blk.new w 25 _).alloc _, hn, ((Below.refl _ w).alloc (Nat.le_refl _) _).alloc (by simp) _⟩
  have H0 := Lib.hid hstart
  have HC := Lib.hid hc
  have HV := Lib.hid h
  have hlen : bs.length ≤ 16 := by omega
  have hb0 : b < w.heap.size := by
    have c0 := hc 0 (by omega)
    rcases Nat.lt_or_ge b w.heap.size with h | h
    · exact h
    · simp [World.cell?, Array.getElem?_eq_none h] at c0
  have HST := Lib.hid (fun k hk => fill_set v bs k hk hlen)
  unfold maxLen at hcm
  clear hstart hr hc
  rcases h with ⟨h, rfl⟩ | ⟨h, rfl⟩
  · have HL := Lib.hid h
    rw [h] at hlc ⊢
    clear h hlen
    go_enter Try.func49, Try.ntmps49
    go_wp2
    go_loopw [5] (fun i wr => ∃ k : Nat, i = .int .i64 (k : Int) ∧ Hid (InF w false bs k wr)) (fun i _ => 4 - (RowKit.intOf i).toNat)
    case atStart => exact ⟨0, rfl, H0⟩
    case round =>
      obtain ⟨k, rfl, hI⟩ := hrel
      by_cases hlt : k < 4
      · have hc1 := (hI.out.low.cell (p := ⟨b, off + k, none⟩) hb0).trans (HC.out k (by rw [HL.out]; exact hlt))
        have hfz := hI.out.own.frozen (1 + k)
        have hcell := (hI.out.own.cell (1 + k)).trans (cellsA_get _ _ k (by simp [HL.out]; omega))
        generalize (bs.take k ++ List.replicate (16 - k) 0).getD k 0 = was at hcell
        have hki : (k : Int) < 4 := by omega
        go_wp2
        go_roundw
        case rel =>
          refine ⟨k + 1, by go_num, Lib.hid ⟨by rw [HL.out]; omega, hI.out.out.far (by simp) _, ?_, hI.out.low.setCell (p := ⟨w.heap.size + 1, 1 + k, none⟩) (Nat.le_succ _) _⟩⟩
          have h := hI.out.own.set_ (1 + k) (.int .u8 ((bs.getD k 0 : Nat) : Int))
          rw [HST.out k (by rw [HL.out]; exact hlt)] at h
          exact h
        case measure => simp [RowKit.intOf]; omega
      · obtain rfl : k = 4 := by have := hI.out.le; rw [HL.out] at this; omega
        have e : bs.take 4 ++ List.replicate (16 - 4) 0 = bs ++ List.replicate (16 - 4) 0 := by rw [List.take_of_length_le (by rw [HL.out]; exact Nat.le_refl _)]
        have ho := hI.out.own
        rw [e] at ho
        have hsz : (cellsA false (bs ++ List.replicate (16 - 4) 0)).size = 17 := by rw [cellsA_size, List.length_append, List.length_replicate, HL.out]
        have hal : (cellsA false (bs ++ List.replicate (16 - 4) 0)).all (·.oneCell') = true := cellsA_all _ _
        have HE := Lib.hid (show adr false (bs ++ List.replicate (16 - 4) 0) = .agg (cellsA false (bs ++ List.replicate (16 - 4) 0)) from rfl)
        generalize cellsA false (bs ++ List.replicate (16 - 4) 0) = c at ho hsz hal HE
        have HO := Lib.hid ho
        have Z := Lib.hid (rj25.trans (congrArg some hsz.symm))
        have Z0 := Lib.hid (hsz.trans (cellsA_size false (List.replicate 16 0)).symm)
        have A := Lib.hid hal
        clear ho hsz hal e
        go_wp2_with (first
          | ((with_reducible refine wpList_blk_load (op := ⟨some 32, .load 25 (.tmp 4), _, _, _, _⟩) ?lg1 25 (.tmp 4) ?lo1 (w.heap.size + 1) ?lx1 _ HO.out Try.underlying25 ?ld1 Z.out ?_); (case lg1 => rfl); (case lo1 => rfl); (case lx1 => rfl); (case ld1 => rfl))
          | ((with_reducible refine wpList_blk_store (op := ⟨none, .store 25 (.tmp 2) (.tmp 32), _, _, _, _⟩) ?sg1 25 (.tmp 2) (.tmp 32) ?so1 w.heap.size c ?sx1 ?sy1 hI.out.out Z0.out Z.out A.out ?_); (case sg1 => rfl); (case so1 => rfl); (case sx1 => rfl); (case sy1 => rfl)))
        intro w3 hA hF hB
        have HA := Lib.hid hA
        have K3 := Lib.hid (hI.out.low.trans (hB _ (Nat.le_refl _)))
        clear hF hA hB
        go_wp2
        have hrun := run_blk_load (P := Try.prog) 25 w.heap.size _ HA.out Try.underlying25 rfl Z.out
        exact bodyPost_ret (results_cell_tmp 2 25 3 w.heap.size _ Try.results49 rfl hrun) rfl ⟨by rw [HE.out]; rfl, K3.out⟩
  · have HL := Lib.hid h
    rw [h] at hlc ⊢
    clear h hlen
    go_enter Try.func49, Try.ntmps49
    go_wp2
    go_loopw [5] (fun i wr => ∃ k : Nat, i = .int .i64 (k : Int) ∧ Hid (InF w true bs k wr)) (fun i _ => 16 - (RowKit.intOf i).toNat)
    case atStart => exact ⟨0, rfl, H0⟩
    case round =>
      obtain ⟨k, rfl, hI⟩ := hrel
      by_cases hlt : k < 16
      · have hc1 := (hI.out.low.cell (p := ⟨b, off + k, none⟩) hb0).trans (HC.out k (by rw [HL.out]; exact hlt))
        have hfz := hI.out.own.frozen (1 + k)
        have hcell := (hI.out.own.cell (1 + k)).trans (cellsA_get _ _ k (by simp [HL.out]; omega))
        generalize (bs.take k ++ List.replicate (16 - k) 0).getD k 0 = was at hcell
        have hki : (k : Int) < 16 := by omega
        go_wp2
        go_roundw
        case rel =>
          refine ⟨k + 1, by go_num, Lib.hid ⟨by rw [HL.out]; omega, hI.out.out.far (by simp) _, ?_, hI.out.low.setCell (p := ⟨w.heap.size + 1, 1 + k, none⟩) (Nat.le_succ _) _⟩⟩
          have h := hI.out.own.set_ (1 + k) (.int .u8 ((bs.getD k 0 : Nat) : Int))
          rw [HST.out k (by rw [HL.out]; exact hlt)] at h
          exact h
        case measure => simp [RowKit.intOf]; omega
      · obtain rfl : k = 16 := by have := hI.out.le; rw [HL.out] at this; omega
        have e : bs.take 16 ++ List.replicate (16 - 16) 0 = bs ++ List.replicate (16 - 16) 0 := by rw [List.take_of_length_le (by rw [HL.out]; exact Nat.le_refl _)]
        have ho := hI.out.own
        rw [e] at ho
        have hsz : (cellsA true (bs ++ List.replicate (16 - 16) 0)).size = 17 := by rw [cellsA_size, List.length_append, List.length_replicate, HL.out]
        have hal : (cellsA true (bs ++ List.replicate (16 - 16) 0)).all (·.oneCell') = true := cellsA_all _ _
        have HE := Lib.hid (show adr true (bs ++ List.replicate (16 - 16) 0) = .agg (cellsA true (bs ++ List.replicate (16 - 16) 0)) from rfl)
        generalize cellsA true (bs ++ List.replicate (16 - 16) 0) = c at ho hsz hal HE
        have HO := Lib.hid ho
        have Z := Lib.hid (rj25.trans (congrArg some hsz.symm))
        have Z0 := Lib.hid (hsz.trans (cellsA_size false (List.replicate 16 0)).symm)
        have A := Lib.hid hal
        clear ho hsz hal e
        go_wp2_with (first
          | ((with_reducible refine wpList_blk_load (op := ⟨some 32, .load 25 (.tmp 4), _, _, _, _⟩) ?lg2 25 (.tmp 4) ?lo2 (w.heap.size + 1) ?lx2 _ HO.out Try.underlying25 ?ld2 Z.out ?_); (case lg2 => rfl); (case lo2 => rfl); (case lx2 => rfl); (case ld2 => rfl))
          | ((with_reducible refine wpList_blk_store (op := ⟨none, .store 25 (.tmp 2) (.tmp 32), _, _, _, _⟩) ?sg2 25 (.tmp 2) (.tmp 32) ?so2 w.heap.size c ?sx2 ?sy2 hI.out.out Z0.out Z.out A.out ?_); (case sg2 => rfl); (case so2 => rfl); (case sx2 => rfl); (case sy2 => rfl)))
        intro w3 hA hF hB
        have HA := Lib.hid hA
        have K3 := Lib.hid (hI.out.low.trans (hB _ (Nat.le_refl _)))
        clear hF hA hB
        go_wp2
        have hrun := run_blk_load (P := Try.prog) 25 w.heap.size _ HA.out Try.underlying25 rfl Z.out
        exact bodyPost_ret (results_cell_tmp 2 25 3 w.heap.size _ Try.results49 rfl hrun) rfl ⟨by rw [HE.out]; rfl, K3.out⟩
end Go.Proofs.Ythionipmohbnhaa
namespace Go.Proofs.Ythionipmohbnhaa
open Go.RowKit
set_option maxHeartbeats 1000000 in
theorem rv4_any (va : Value) (bs : List Nat) (w : World) (hr : Rd w va (nus .u8 bs)) (h : bs.length = 4) :
    Calls Try.prog 48 #[va] w fun e w' => e = .returned (.agg (a4 bs)) ∧ Below w.heap.size w w' := by
  have B0 := (Below.refl w.heap.size w).alloc (Nat.le_refl _) (.cells (cellsA false (List.replicate 16 0)) 25)
  have C := Lib.hid (rfrom_ok va false bs _ (hr.below B0) (.inl ⟨h, rfl⟩))
  have HN := Lib.hid (Blk.new w 25 (cellsA false (List.replicate 16 0)))
  have HB := Lib.hid B0
  have hsz := a4_size bs (by omega)
  have hal := a4_all bs
  have e : adr false (bs ++ List.replicate (16 - bs.length) 0) = .agg (a4 bs) := rfl
  rw [e] at C
  obtain ⟨a, cap, rfl, -, -⟩ := rd_shape hr
  generalize a4 bs = c at *
  rw [h] at *
  have Z := Lib.hid (i24.trans (congrArg some hsz.symm))
  have Z0 := Lib.hid (hsz.trans (cellsA_size false (List.replicate 16 0)).symm)
  have Z9 : Hid (c.size = Array.size (Zc17 : Array Value)) := hsz
  have A := Lib.hid hal
  clear hr h e hsz hal B0
  go_enter Try.func48, Try.ntmps48
  go_wp2_with fail
  refine C.out.mono ?_; rintro e W1 ⟨rfl, hb⟩
  have N1 := Lib.hid (HN.out.below hb HN.out.lt)
  have K1 := Lib.hid (HB.out.trans (hb.mono HB.out.size))
  clear hb HN HB C
  go_wp2_with (((with_reducible refine wpList_blk_store (op := ⟨none, .store 25 (.tmp 3) (.tmp 8), _, _, _, _⟩) ?sg1 25 (.tmp 3) (.tmp 8) ?so1 (W1.heap.size) c ?sx1 ?sy1 (Blk.new W1 25 Zc17) Z9.out Z.out A.out ?_); (case sg1 => rfl); (case so1 => rfl); (case sx1 => rfl); (case sy1 => rfl)))
  intro W2 hA hF hB
  have K2 := Lib.hid ((K1.out.alloc K1.out.size (.cells (cellsA false (List.replicate 16 0)) 25)).trans (hB _ K1.out.size))
  have N2 := Lib.hid ((N1.out.alloc (.cells (cellsA false (List.replicate 16 0)) 25)).below (hB _ (Nat.le_refl _)) N1.out.lt)
  have A2 := Lib.hid hA
  clear hA hF hB K1 N1
  go_wp2_with (first
    | ((with_reducible refine wpList_blk_load (op := ⟨some 10, .load 25 (.tmp 3), _, _, _, _⟩) ?lg2 25 (.tmp 3) ?lo2 (W1.heap.size) ?lx2 _ A2.out Try.underlying25 ?ld2 Z.out ?_); (case lg2 => rfl); (case lo2 => rfl); (case lx2 => rfl); (case ld2 => rfl))
    | ((with_reducible refine wpList_blk_store (op := ⟨none, .store 25 (.tmp 2) (.tmp 10), _, _, _, _⟩) ?sg3 25 (.tmp 2) (.tmp 10) ?so3 (w.heap.size) c ?sx3 ?sy3 N2.out Z0.out Z.out A.out ?_); (case sg3 => rfl); (case so3 => rfl); (case sx3 => rfl); (case sy3 => rfl)))
  intro W3 hA hF hB
  have HA := Lib.hid hA
  have K3 := Lib.hid (K2.out.trans (hB _ (Nat.le_refl _)))
  clear hA hF hB
  go_wp2
  have hrun := run_blk_load (P := Try.prog) 25 w.heap.size _ HA.out Try.underlying25 rfl Z.out
  exact bodyPost_ret (results_cell 2 25 w.heap.size _ Try.results48 rfl hrun) rfl ⟨rfl, K3.out⟩
end Go.Proofs.Ythionipmohbnhaa
namespace Go.Proofs.Ythionipmohbnhaa
open Go.RowKit
theorem wp_blk_store {P : Program} {w : World} {K : Act → World → Prop} {Q : Exit → Act → World → Prop} {g : Nat} {t : TypeId} {cs : Array Value} {op : Oper} {a : Act} (ty : TypeId) (x y : Operand) (ho : op.op = .store ty x y)
    (vs : Array Value) (hx : a.eval x = .pointer (some ⟨g, 0, none⟩)) (hy : a.eval y = .agg vs) (hc : Blk w g t cs) (hs : vs.size = cs.size)
    (hi : (P.info? ty).map (·.size) = some vs.size) (h1 : vs.all (·.oneCell') = true)
    (h : ∀ w', Blk w' g t vs → (∀ k, k ≠ g → w'.heap[k]? = w.heap[k]?) → (∀ B, B ≤ g → Below B w w') → K (a.put op.dst undef) w') : op.wp P a w K Q :=
  wp_store_mid ty x y ho g 0 vs hx hy (hc.thereN (by omega)) hi h1
    (h _ (hc.setAll vs hs) (fun k hk => setCells_far k hk _ _ _) (fun B hB => setCells_below hB _ _ _ (Below.refl _ _)))
end Go.Proofs.Ythionipmohbnhaa
namespace Go.Proofs.Ythionipmohbnhaa
open Go.RowKit
theorem wpAnyH_mono {P : Program} {ops : Array Oper} {Q : Exit → Act → World → Prop} {md : Region.Mode} {S S' : World → Prop} (hS : ∀ w, S' w → S w) :
    ∀ (fuel : Nat) (listed : Array Bool) (a : Act) (w : World), wpAnyH P md ops Q S' fuel listed a w → wpAnyH P md ops Q S fuel listed a w
  | 0, _, _, _, h => h
  | _ + 1, _, _, _, h => ⟨h.1, fun i hi => wpOp_mono (fun _ _ h' => ⟨hS _ h'.1, wpAnyH_mono hS _ _ _ _ h'.2⟩) (h.2 i hi)⟩
end Go.Proofs.Ythionipmohbnhaa
