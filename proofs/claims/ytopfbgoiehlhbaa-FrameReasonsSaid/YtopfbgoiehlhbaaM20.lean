/- Texts that the walks of this seat lean on, put together: each has its own remark below. -/
import Derived.Great.BuildSlice
import Derived.Test.YtopfbgoiehlhbaaM02
import Derived.Test.YtopfbgoiehlhbaaM06
import Derived.Test.YtopfbgoiehlhbaaM15
import Derived.Test.YtopfbgoiehlhbaaM17

/- A row of records of a text and a number that the call itself makes: a literal of one, and its append. -/
namespace Go.Proofs.Ytopfbgoiehlhbaa
open Go.RowKit

/-- What is asked of an element's type: a text and a number. -/
def Rec2 (P : Program) (e : TypeId) : Prop := (P.info? e).map (fun i => (i.zero, i.size, i.bytes)) = some (some (.agg #[.string { data := #[] }, .int .i64 0]), 2, 24)
theorem rec96 : Rec2 Try.prog 96 := by unfold Rec2; kernel_rfl
theorem rec46 : Rec2 Try.prog 46 := by unfold Rec2; kernel_rfl
theorem fill_rec (s : ByteArray) (n : Int) : Instr.fill (fun i => some (i * 2, 2)) ((Array.range (1 * 2)).map ((Value.agg #[.string { data := #[] }, .int .i64 0]).cells[· % (Value.agg #[.string { data := #[] }, .int .i64 0]).cells.size]!)) [(0, .agg #[.string s, .int .i64 n])] = some #[.string s, .int .i64 n] := by
  kernel_rfl
/-- 'append(row, T{s, n})': the literal's block. -/
theorem wp_one_rec {P : Program} {o : Oper} {a : Act} {w : World} {K : Act → World → Prop} {Q : Exit → Act → World → Prop} (t e : TypeId) (x : Operand) (ho : o.op = .buildSlice t 1 #[(0, x)]) (s : ByteArray) (n : Int)
    (hx : a.eval x = .agg #[.string s, .int .i64 n]) (hu : P.underlying t = some (.slice e)) (hi : Rec2 P e)
    (h : ∀ w', w'.heap[w.heap.size]? = some (.cells #[.string s, .int .i64 n] e (0, 0)) → Below w.heap.size w w' → w'.heap.size = w.heap.size + 1 → K (a.put o.dst (.slice (some ⟨w.heap.size, 0, none⟩) 1 1)) w') : o.wp P a w K Q := by
  obtain ⟨i, hi, hz, hs, -⟩ := info_parts hi
  refine wp_buildSlice t e 1 #[(0, x)] ho #[.string s, .int .i64 n] i _ hu hi hz (by rw [hs]; omega) (by rw [hs]; omega) ?_ (h _ (World.alloc_heap_new w _) ((Below.refl _ w).alloc (Nat.le_refl _) _) (World.size_alloc w _))
  rw [hs]
  rw [show ((#[(0, x)] : Array (Nat × Operand)).map fun (i, x) => (i, a.eval x)).toList = [(0, a.eval x)] by simp, hx]
  exact fill_rec s n
theorem wpList_one_rec {P : Program} {ops : Array Oper} {rest : List Oper} {o : Oper} {a : Act} {w : World} {Q : Exit → Act → World → Prop} (hw : Region.wanted o (yielded ops a.tmps) = true) (t e : TypeId) (x : Operand) (ho : o.op = .buildSlice t 1 #[(0, x)]) (s : ByteArray) (n : Int)
    (hx : a.eval x = .agg #[.string s, .int .i64 n]) (hu : P.underlying t = some (.slice e)) (hi : Rec2 P e)
    (h : ∀ w', w'.heap[w.heap.size]? = some (.cells #[.string s, .int .i64 n] e (0, 0)) → Below w.heap.size w w' → w'.heap.size = w.heap.size + 1 → wpList P ops Q rest (a.put o.dst (.slice (some ⟨w.heap.size, 0, none⟩) 1 1)) w') : wpList P ops Q (o :: rest) a w :=
  BigFrame.wpList_want hw fun _ hK => wp_one_rec t e x ho s n hx hu hi fun w' h1 h2 h3 => hK _ _ (h w' h1 h2 h3)
/-- The append. -/
theorem wp_app_rec {P : Program} {o : Oper} {a : Act} {w : World} {K : Act → World → Prop} {Q : Exit → Act → World → Prop} (s x : Operand) (t e : TypeId)
    (ho : o.op = .call { callee := .builtin .append, args := #[s, x], argTypes := #[t, t] }) (hu : P.underlying t = some (.slice e)) (hi : Rec2 P e)
    (base : Nat) (v : Value) (n : Nat) (xs : List Value) (hs : a.eval s = v) (hown : w.ownsRow base e 2 v n xs) (g : Nat) (c : ByteArray) (m : Int) (hx : a.eval x = .slice (some ⟨g, 0, none⟩) 1 1)
    (hg : w.heap[g]? = some (.cells #[.string c, .int .i64 m] e (0, 0))) (hn : n ≤ 1000) (hbase : base ≤ w.heap.size)
    (h : ∀ v' w', w'.ownsRow base e 2 v' (n + 1) (xs ++ [.string c, .int .i64 m]) → w.grownBy w' v.ownBlock → K (a.put o.dst v') w') : o.wp P a w K Q := by
  obtain ⟨i, hi, hz, hs2, hby⟩ := info_parts hi
  refine wp_append_own w s x t ho base e i _ 2 24 hu hi hz hs2 hby rfl (by decide) v n xs hs hown ⟨g, 0, none⟩ 1 1 [.string c, .int .i64 m] hx rfl ?_ ?_ (by unfold maxLen; omega) (by omega) hbase (fun v' w' h1 h2 _ => h v' w' h1 h2)
  · intro j u hj
    rw [Addr.add_lit]
    match j, hj with
    | 0, hj => cases hj; simp [World.cell?, hg]
    | 1, hj => cases hj; simp [World.cell?, hg]
  · intro u hu
    simp at hu
    rcases hu with rfl | rfl <;> rfl
theorem wpList_app_rec {P : Program} {ops : Array Oper} {rest : List Oper} {o : Oper} {a : Act} {w : World} {Q : Exit → Act → World → Prop} (hw : Region.wanted o (yielded ops a.tmps) = true) (s x : Operand) (t e : TypeId)
    (ho : o.op = .call { callee := .builtin .append, args := #[s, x], argTypes := #[t, t] }) (hu : P.underlying t = some (.slice e)) (hi : Rec2 P e)
    (base : Nat) (v : Value) (n : Nat) (xs : List Value) (hs : a.eval s = v) (hown : w.ownsRow base e 2 v n xs) (g : Nat) (c : ByteArray) (m : Int) (hx : a.eval x = .slice (some ⟨g, 0, none⟩) 1 1)
    (hg : w.heap[g]? = some (.cells #[.string c, .int .i64 m] e (0, 0))) (hn : n ≤ 1000) (hbase : base ≤ w.heap.size)
    (h : ∀ v' w', w'.ownsRow base e 2 v' (n + 1) (xs ++ [.string c, .int .i64 m]) → w.grownBy w' v.ownBlock → wpList P ops Q rest (a.put o.dst v') w') : wpList P ops Q (o :: rest) a w :=
  BigFrame.wpList_want hw fun _ hK => wp_app_rec s x t e ho hu hi base v n xs hs hown g c m hx hg hn hbase fun v' w' h1 h2 => hK _ _ (h v' w' h1 h2)
/-- A literal of one record is a row of the call's own. -/
theorem own_rec {w : World} {g : Nat} {e : TypeId} {c : ByteArray} {m : Int} {base : Nat} (hg : w.heap[g]? = some (.cells #[.string c, .int .i64 m] e (0, 0))) (hb : base ≤ g) : w.ownsRow base e 2 (.slice (some ⟨g, 0, none⟩) 1 1) 1 [.string c, .int .i64 m] :=
  ⟨rfl, .inr ⟨g, 1, _, rfl, hb, hg, Nat.le_refl _, by unfold maxLen; omega, rfl, rfl⟩⟩
/-- The row stays where what lies below stays. -/
theorem row_under2 {w w' : World} {base : Nat} {e : TypeId} {k : Nat} {v : Value} {n : Nat} {xs : List Value} (h : w.ownsRow base e k v n xs) (hb : Below w.heap.size w w') : w'.ownsRow base e k v n xs := by
  refine ⟨h.1, ?_⟩
  rcases h.2 with h0 | ⟨g, cap, cur, rfl, hbg, hg, h3⟩
  · exact .inl h0
  · exact .inr ⟨g, cap, cur, rfl, hbg, (hb.block g (Array.getElem?_eq_some_iff.1 hg).1).trans hg, h3⟩
/-- The row's own block is none of another type. -/
theorem own_other {w : World} {b : Nat} {t e : TypeId} {cs : Array Value} {base k : Nat} {v : Value} {n : Nat} {xs : List Value} (h : w.ownsRow base e k v n xs) (hb : Blk w b t cs) (hte : t ≠ e) : some b ≠ v.ownBlock := by
  rcases h.2 with ⟨rfl, -⟩ | ⟨g, cap, cur, rfl, -, hg, -⟩
  · simp [Value.ownBlock]
  · intro e'
    obtain rfl : b = g := by simpa [Value.ownBlock] using e'
    have := (show w.heap[b]? = _ from hb).symm.trans hg
    simp at this
    exact hte this.2
theorem blk_grown {w w' : World} {b : Nat} {t e : TypeId} {cs : Array Value} {base k : Nat} {v : Value} {n : Nat} {xs : List Value} (hb : Blk w b t cs) (h : w.ownsRow base e k v n xs) (hte : t ≠ e) (hg : w.grownBy w' v.ownBlock) : Blk w' b t cs :=
  show w'.heap[b]? = _ from (hg.block b hb.lt (own_other h hb hte)).trans hb
theorem below_grown {w0 w w' : World} {B : Nat} {e : TypeId} {base k : Nat} {v : Value} {n : Nat} {xs : List Value} (hK : Below B w0 w) (h : w.ownsRow base e k v n xs) (hB : B ≤ base) (hs : B ≤ w.heap.size) (hg : w.grownBy w' v.ownBlock) : Below B w0 w' :=
  hK.grown hg hs (fun j ej => Nat.le_trans hB (h.lt j ej).1)
end Go.Proofs.Ytopfbgoiehlhbaa

/- frame.tagged, frame.netName, frame.segName. -/
namespace Go.Proofs.Ytopfbgoiehlhbaa
open Go.RowKit

theorem or16 (p q : Nat) (hp : p < 256) (hq : q < 256) : bits .or .u16 ((p : Int) * 256) (q : Int) = ((p * 256 + q : Nat) : Int) := by
  have e : (p : Int) * 256 = ((p * 256 : Nat) : Int) := by omega
  rw [e, u16_or_nat _ _ (by omega) (by omega), nat_join 8 (p * 256) q (by omega) (by omega)]
set_option maxRecDepth 100000 in
set_option maxHeartbeats 1000000 in
theorem tagged_any (v : Value) (zs : List Nat) (w : World) (hr : Rd w v (nus .u8 zs)) (hb : ∀ c ∈ zs, c < 256) (h14 : 14 ≤ zs.length) :
    Calls Try.prog 64 #[v] w fun e w' => e = .returned (.bool (decide (u2 zs 12 = 33024))) ∧ Below w.heap.size w w' := by
  obtain ⟨a, cap, rfl, h1, h2⟩ := rd_shape hr
  obtain ⟨b, off, rfl, hc⟩ := hr.cells (by omega)
  have q12 := hc 12 (by omega)
  have q13 := hc 13 (by omega)
  have hp := getD_lt zs hb 12
  have hq := getD_lt zs hb 13
  have hX := Lib.hid (show u2 zs 12 = zs.getD 12 0 * 256 + zs.getD 13 0 from rfl)
  have hB := rd_cell q12
  unfold maxLen at h2
  generalize u2 zs 12 = U at *
  generalize zs.getD 12 0 = p at *
  generalize zs.getD 13 0 = q at *
  have hO := Lib.hid (or16 p q hp hq)
  have C12 := Lib.hid q12
  have C13 := Lib.hid q13
  generalize zs.length = n at *
  clear hr hb hc q12 q13
  have hw1 : IntKind.u16.wrap (p : Int) = (p : Int) := by rw [IntKind.wrap_u16]; omega
  have hw2 : IntKind.u16.wrap (q : Int) = (q : Int) := by rw [IntKind.wrap_u16]; omega
  have hw3 : IntKind.u16.wrap ((p : Int) * 256) = (p : Int) * 256 := by rw [IntKind.wrap_u16]; omega
  have K := Lib.hid (Below.refl w.heap.size w)
  go_enter Try.func64, Try.ntmps64
  go_wp2_with fail
  refine wp_region_held (S := (fun w' : World => Below (w.heap.size) w w')) (by kernel_rfl) ?_
  change wpAnyH _ _ _ _ _ _ _ _ w.drew
  have hy : Below w.heap.size w w.drew := (Below.refl _ _).drew
  have hE0 : Below (w.heap.size) w w.drew := (Below.refl _ _).drew
  clear hy
  generalize w.drew = Y1x0 at hE0  ⊢
  have E0 := Lib.hid hE0
  clear hE0
  refine wpAnyH_take (i := 0) (oi := { dst := some 3, op := Op.move (Operand.tmp 0), type := 22, pos := "frame.go:128", after := #[], guard := none }) (v := ?_) rfl (by kernel_rfl) (by kernel_rfl) (by kernel_rfl) (fun _ _ _ h => h) (Or.inl ⟨by rfl, ?_⟩) E0.out ?_
  rotate_left
  · (intro w1 hS; go_simp; try with_reducible rfl)
  simp only [Act.put, List.setIfInBounds_toArray, List.set_cons_zero, List.set_cons_succ]
  refine wpAnyH_take (i := 1) (oi := { dst := some 4, op := Op.indexAddr 22 (Operand.tmp 3) (Operand.const (Value.int IntKind.i64 12)), type := 0, pos := "frame.go:128", after := #[{ on := 0, ground := Ground.data }], guard := none }) (v := ?_) rfl (by kernel_rfl) (by kernel_rfl) (by kernel_rfl) (fun _ _ _ h => h) (Or.inl ⟨by rfl, ?_⟩) E0.out ?_
  rotate_left
  · (intro w1 hS; have hW := hS; have q1 : (12 : Int) < (n : Int) := (by omega); clear hW hS; go_simp; try with_reducible rfl)
  simp only [Act.put, List.setIfInBounds_toArray, List.set_cons_zero, List.set_cons_succ]
  refine wpAnyH_take (i := 2) (oi := { dst := some 5, op := Op.load 5 (Operand.tmp 4), type := 5, pos := "frame.go:128", after := #[{ on := 1, ground := Ground.data }], guard := none }) (v := ?_) rfl (by kernel_rfl) (by kernel_rfl) (by kernel_rfl) (fun _ _ _ h => h) (Or.inl ⟨by rfl, ?_⟩) E0.out ?_
  rotate_left
  · (intro w1 hS; have hW := hS; have q1 := (hW.cell (p := ⟨b, off + 12, none⟩) hB).trans C12.out; clear hW hS; go_simp; try with_reducible rfl)
  simp only [Act.put, List.setIfInBounds_toArray, List.set_cons_zero, List.set_cons_succ]
  refine wpAnyH_take (i := 3) (oi := { dst := some 6, op := Op.convert 5 27 (Operand.tmp 5), type := 27, pos := "frame.go:128", after := #[{ on := 2, ground := Ground.data }], guard := none }) (v := ?_) rfl (by kernel_rfl) (by kernel_rfl) (by kernel_rfl) (fun _ _ _ h => h) (Or.inl ⟨by rfl, ?_⟩) E0.out ?_
  rotate_left
  · (intro w1 hS; go_simp; try with_reducible rfl)
  simp only [Act.put, List.setIfInBounds_toArray, List.set_cons_zero, List.set_cons_succ]
  refine wpAnyH_take (i := 4) (oi := { dst := some 7, op := Op.binOp BinOp.shl 27 (Operand.tmp 6) (Operand.const (Value.int IntKind.u64 8)) 69, type := 27, pos := "frame.go:128", after := #[{ on := 3, ground := Ground.data }], guard := none }) (v := ?_) rfl (by kernel_rfl) (by kernel_rfl) (by kernel_rfl) (fun _ _ _ h => h) (Or.inl ⟨by rfl, ?_⟩) E0.out ?_
  rotate_left
  · (intro w1 hS; go_simp; try with_reducible rfl)
  simp only [Act.put, List.setIfInBounds_toArray, List.set_cons_zero, List.set_cons_succ]
  refine wpAnyH_take (i := 5) (oi := { dst := some 8, op := Op.move (Operand.tmp 0), type := 22, pos := "frame.go:128", after := #[], guard := none }) (v := ?_) rfl (by kernel_rfl) (by kernel_rfl) (by kernel_rfl) (fun _ _ _ h => h) (Or.inl ⟨by rfl, ?_⟩) E0.out ?_
  rotate_left
  · (intro w1 hS; go_simp; try with_reducible rfl)
  simp only [Act.put, List.setIfInBounds_toArray, List.set_cons_zero, List.set_cons_succ]
  refine wpAnyH_take (i := 6) (oi := { dst := some 9, op := Op.indexAddr 22 (Operand.tmp 8) (Operand.const (Value.int IntKind.i64 13)), type := 0, pos := "frame.go:128", after := #[{ on := 5, ground := Ground.data }], guard := none }) (v := ?_) rfl (by kernel_rfl) (by kernel_rfl) (by kernel_rfl) (fun _ _ _ h => h) (Or.inl ⟨by rfl, ?_⟩) E0.out ?_
  rotate_left
  · (intro w1 hS; have hW := hS; have q1 : (13 : Int) < (n : Int) := (by omega); clear hW hS; go_simp; try with_reducible rfl)
  simp only [Act.put, List.setIfInBounds_toArray, List.set_cons_zero, List.set_cons_succ]
  refine wpAnyH_take (i := 7) (oi := { dst := some 10, op := Op.load 5 (Operand.tmp 9), type := 5, pos := "frame.go:128", after := #[{ on := 6, ground := Ground.data }], guard := none }) (v := ?_) rfl (by kernel_rfl) (by kernel_rfl) (by kernel_rfl) (fun _ _ _ h => h) (Or.inl ⟨by rfl, ?_⟩) E0.out ?_
  rotate_left
  · (intro w1 hS; have hW := hS; have q1 := (hW.cell (p := ⟨b, off + 13, none⟩) hB).trans C13.out; clear hW hS; go_simp; try with_reducible rfl)
  simp only [Act.put, List.setIfInBounds_toArray, List.set_cons_zero, List.set_cons_succ]
  refine wpAnyH_take (i := 8) (oi := { dst := some 11, op := Op.convert 5 27 (Operand.tmp 10), type := 27, pos := "frame.go:128", after := #[{ on := 7, ground := Ground.data }], guard := none }) (v := ?_) rfl (by kernel_rfl) (by kernel_rfl) (by kernel_rfl) (fun _ _ _ h => h) (Or.inl ⟨by rfl, ?_⟩) E0.out ?_
  rotate_left
  · (intro w1 hS; go_simp; try with_reducible rfl)
  simp only [Act.put, List.setIfInBounds_toArray, List.set_cons_zero, List.set_cons_succ]
  refine wpAnyH_take (i := 9) (oi := { dst := some 12, op := Op.binOp BinOp.or 27 (Operand.tmp 7) (Operand.tmp 11) 27, type := 27, pos := "frame.go:128", after := #[{ on := 4, ground := Ground.data }, { on := 8, ground := Ground.data }], guard := none }) (v := ?_) rfl (by kernel_rfl) (by kernel_rfl) (by kernel_rfl) (fun _ _ _ h => h) (Or.inl ⟨by rfl, ?_⟩) E0.out ?_
  rotate_left
  · (intro w1 hS; have hW := hS; have q1 := hO.out; clear hW hS; go_simp; try with_reducible rfl)
  simp only [Act.put, List.setIfInBounds_toArray, List.set_cons_zero, List.set_cons_succ]
  refine wpAnyH_take (i := 10) (oi := { dst := some 13, op := Op.binOp BinOp.eql 27 (Operand.tmp 12) (Operand.const (Value.int IntKind.u16 33024)) 27, type := 4, pos := "frame.go:128", after := #[{ on := 9, ground := Ground.data }], guard := none }) (v := ?_) rfl (by kernel_rfl) (by kernel_rfl) (by kernel_rfl) (fun _ _ _ h => h) (Or.inl ⟨by rfl, ?_⟩) E0.out ?_
  rotate_left
  · (intro w1 hS; go_simp; try with_reducible rfl)
  simp only [Act.put, List.setIfInBounds_toArray, List.set_cons_zero, List.set_cons_succ]
  refine wpAnyH_take (i := 11) (oi := { dst := some 2, op := Op.assign (Operand.tmp 13), type := 4, pos := "frame.go:128", after := #[{ on := 10, ground := Ground.data }, { on := 0, ground := Ground.phase }, { on := 1, ground := Ground.phase }, { on := 2, ground := Ground.phase }, { on := 3, ground := Ground.phase }, { on := 4, ground := Ground.phase }, { on := 5, ground := Ground.phase }, { on := 6, ground := Ground.phase }, { on := 7, ground := Ground.phase }, { on := 8, ground := Ground.phase }, { on := 9, ground := Ground.phase }, { on := 10, ground := Ground.phase }], guard := none }) (v := ?_) rfl (by kernel_rfl) (by kernel_rfl) (by kernel_rfl) (fun _ _ _ h => h) (Or.inl ⟨by rfl, ?_⟩) E0.out ?_
  rotate_left
  · (intro w1 hS; go_simp; try with_reducible rfl)
  simp only [Act.put, List.setIfInBounds_toArray, List.set_cons_zero, List.set_cons_succ]
  refine wpAnyH_done (by kernel_rfl) ?_ _
  have hy := E0.out
  replace K := Lib.hid (K.out.trans (hy.mono K.out.size))
  clear hy E0
  go_wp2
  go_ret
  refine ⟨congrArg (fun x => Ending.returned (Value.bool x)) ?_, K.out⟩
  rw [hX.out, Bool.eq_iff_iff]
  simp only [beq_iff_eq, decide_eq_true_eq]
  omega

set_option maxRecDepth 100000 in
set_option maxHeartbeats 1000000 in
theorem netName_any (PV : Array Value) (six : Bool) (w : World) (hs : PV.size = 42) (h0 : PV[0]? = some (.bool six)) :
    Calls Try.prog 65 #[.agg PV] w fun e w' => e = .returned (.string (nmS (if six then 3 else 2))) ∧ Below w.heap.size w w' := by
  have ZPV := Lib.hid (i72.trans (congrArg some hs.symm))
  have H0 := Lib.hid h0
  have K := Lib.hid (Below.refl w.heap.size w)
  clear hs h0
  go_enter Try.func65, Try.ntmps65
  have hal := (Below.refl w.heap.size w).alloc (Nat.le_refl _) (.cells PV 31)
  replace K := Lib.hid (K.out.trans (hal.mono K.out.size))
  have HX := Lib.hid (Blk.new w 31 PV)
  clear hal
  have c0 := (HX.out.cell 0).trans H0.out
  cases six
  · go_wp2
    go_ret
    exact ⟨rfl, K.out⟩
  · go_wp2
    go_ret
    exact ⟨rfl, K.out⟩

set_option maxRecDepth 100000 in
set_option maxHeartbeats 1000000 in
theorem segName_any (PV : Array Value) (p : Nat) (w : World) (hs : PV.size = 42) (h0 : PV[4]? = some (.int .u8 (p : Int))) :
    Calls Try.prog 66 #[.agg PV] w fun e w' => e = .returned (.string (nmS (if p = 17 then 5 else 4))) ∧ Below w.heap.size w w' := by
  have ZPV := Lib.hid (i72.trans (congrArg some hs.symm))
  have H0 := Lib.hid h0
  have K := Lib.hid (Below.refl w.heap.size w)
  clear hs h0
  go_enter Try.func66, Try.ntmps66
  have hal := (Below.refl w.heap.size w).alloc (Nat.le_refl _) (.cells PV 31)
  replace K := Lib.hid (K.out.trans (hal.mono K.out.size))
  have HX := Lib.hid (Blk.new w 31 PV)
  clear hal
  have c0 := (HX.out.cell 4).trans H0.out
  by_cases hp : p = 17
  · subst hp
    go_wp2
    go_ret
    exact ⟨rfl, K.out⟩
  · have g0 : ((p : Int) == 17) = false := by rw [beq_eq_false_iff_ne]; omega
    rw [if_neg hp]
    clear hp
    go_wp2
    go_ret
    exact ⟨rfl, K.out⟩
end Go.Proofs.Ytopfbgoiehlhbaa

