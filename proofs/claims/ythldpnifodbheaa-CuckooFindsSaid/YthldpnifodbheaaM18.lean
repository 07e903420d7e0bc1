/- Texts that the walks of this seat lean on, put together. -/
import Derived.Deep.CutBlock
import Derived.Deep.DeepCutAuto
import Derived.LoopTactic
import Derived.Handy
import Derived.Test.YthldpnifodbheaaTk
import Derived.Test.YthldpnifodbheaaTl
import Derived.Test.YthldpnifodbheaaM03
import Derived.Test.YthldpnifodbheaaM10
import Derived.Test.YthldpnifodbheaaM11
import Derived.Test.YthldpnifodbheaaM14
import Derived.Test.YthldpnifodbheaaM16
import Derived.Test.YthldpnifodbheaaM17
namespace Go.Proofs.Ythldpnifodbheaa
open Go.RowKit Go.Lib
instance : DecidableEq Fl := fun a b => decidable_of_iff (a.p = b.p ∧ a.sv = b.sv ∧ a.S = b.S ∧ a.dv = b.dv ∧ a.D = b.D ∧ a.sp = b.sp ∧ a.dp = b.dp)
  ⟨fun h => by obtain ⟨h1, h2, h3, h4, h5, h6, h7⟩ := h; cases a; cases b; simp_all, fun h => by subst h; exact ⟨rfl, rfl, rfl, rfl, rfl, rfl, rfl⟩⟩
structure Se where
  k : Fl
  d : Nat
  v : Int
  r : Int
  fit : k.Fit
def ceC (u : Bool) (d : Nat) (v r : Int) : Array Value := #[.bool u, .int .u16 (d : Int), .int .i64 v, .int .i64 r]
def seC (k : Fl) (u : Bool) (d : Nat) (v r : Int) : Array Value := (k.cs.toList ++ [Value.bool u, Value.int .u16 (d : Int), Value.int .i64 v, Value.int .i64 r]).toArray
def Se.cs (s : Se) : Array Value := seC s.k true s.d s.v s.r
def Se.ce (s : Se) : Array Value := ceC true s.d s.v s.r
def zSe : Array Value := seC k0 false 0 0 0
def zCe : Array Value := ceC false 0 0 0
def encT : Option Se → List Value | none => Value.bool false :: zSe.toList | some s => Value.bool true :: s.cs.toList
def oC : Option Se → Array Value | none => zSe | some s => s.cs
theorem seC_size (k : Fl) (h : k.Fit) (u : Bool) (d : Nat) (v r : Int) : (seC k u d v r).size = 41 := by
  unfold seC; rw [List.size_toArray, List.length_append, Array.length_toList, k.cs_size h]; rfl
theorem Se.size (s : Se) : s.cs.size = 41 := seC_size _ s.fit _ _ _ _
theorem zSe_size : zSe.size = 41 := seC_size _ k0_fit _ _ _ _
theorem oC_size (o : Option Se) : (oC o).size = 41 := by cases o; exact zSe_size; exact Se.size _
theorem encT_len (o : Option Se) : (encT o).length = 42 := by
  cases o with
  | none => show zSe.toList.length + 1 = 42; rw [Array.length_toList, zSe_size]
  | some s => show s.cs.toList.length + 1 = 42; rw [Array.length_toList, s.size]
theorem encT_eq (o : Option Se) : encT o = .bool o.isSome :: (oC o).toList := by cases o <;> rfl
theorem seC_all (k : Fl) (u : Bool) (d : Nat) (v r : Int) : (seC k u d v r).all (·.oneCell') = true := by
  have h := Fl.cs_all k
  unfold seC
  rw [← Array.all_toList] at h ⊢
  rw [List.toList_toArray, List.all_append, h]
  rfl
theorem oC_all (o : Option Se) : (oC o).all (·.oneCell') = true := by cases o <;> exact seC_all _ _ _ _ _
theorem encT_all (o : Option Se) : (encT o).toArray.all (·.oneCell') = true := by
  rw [encT_eq, ← Array.all_toList, List.toList_toArray, List.all_cons]
  have h := oC_all o
  rw [← Array.all_toList] at h
  rw [h]; rfl
theorem seC_key (k : Fl) (u : Bool) (d : Nat) (v r : Int) : ((seC k u d v r).toList.drop 0).take k.cs.toList.length = k.cs.toList := by
  unfold seC; rw [List.toList_toArray, List.drop_zero, List.take_left]
theorem seC_cell (k : Fl) (h : k.Fit) (u : Bool) (d : Nat) (v r : Int) : ((seC k u d v r).toList.drop 37).take (ceC u d v r).toList.length = (ceC u d v r).toList := by
  have e : k.cs.toList.length = 37 := by rw [Array.length_toList, k.cs_size h]
  unfold seC ceC; rw [List.toList_toArray, ← e, List.drop_left]; rfl
theorem seC_get (k : Fl) (h : k.Fit) (u : Bool) (d : Nat) (v r : Int) : (seC k u d v r)[37]? = some (.bool u) ∧ (seC k u d v r)[38]? = some (.int .u16 (d : Int)) ∧ (seC k u d v r)[39]? = some (.int .i64 v) ∧ (seC k u d v r)[40]? = some (.int .i64 r) := by
  have e : k.cs.toList.length = 37 := by rw [Array.length_toList, k.cs_size h]
  unfold seC
  simp only [List.getElem?_toArray]
  refine ⟨?_, ?_, ?_, ?_⟩ <;> (rw [List.getElem?_append_right (by omega), e]; rfl)
theorem ceC_all (u : Bool) (d : Nat) (v r : Int) : (ceC u d v r).all (·.oneCell') = true := by
  unfold ceC; rw [← Array.all_toList]; rfl
end Go.Proofs.Ythldpnifodbheaa
namespace Go.Proofs.Ythldpnifodbheaa
open Go.RowKit Go.Lib
def plA (a b : Int) : Array Value := #[.int .i64 a, .int .i64 b]
theorem plA_get (a b : Int) : (plA a b)[0]? = some (.int .i64 a) ∧ (plA a b)[1]? = some (.int .i64 b) := ⟨rfl, rfl⟩
theorem i51p : (Try.prog.info? 51).map (·.size) = some 2 := by kernel_rfl
theorem plA_i (a b : Int) : (Try.prog.info? 51).map (·.size) = some (plA a b).size := i51p
def inP (st sz : Nat) (a b : Int) : Prop := 0 ≤ a ∧ a < (st : Int) ∧ 0 ≤ b ∧ b < (sz : Int)
instance (st sz : Nat) (a b : Int) : Decidable (inP st sz a b) := by unfold inP; exact inferInstance
abbrev GdT (B st sz : Nat) (c : Nat → Option Se) (W : World) : Prop := GS 133 141 130 encT B st sz c W
theorem eqgT_some (p : Addr) (W : World) : (binOp .eql 78 (.pointer (some p)) (.pointer none)).run Try.prog W = .ok (.bool false) W := by kernel_rfl
set_option maxRecDepth 100000 in
set_option maxHeartbeats 4000000 in
theorem inT_lo (B st sz : Nat) (c : Nat → Option Se) (a b : Int) (h1 : a < 0) (w : World) (h : GdT B st sz c w) :
    Calls Try.prog 74 #[.pointer (some ⟨B + 1, 0, none⟩), .agg (plA a b)] w fun e w' => e = .returned (.bool false) ∧ Below w.heap.size w w' := by
  have K := lh (Below.refl w.heap.size w)
  have G := lh h.G
  have R := lh h.R
  have hlt := h.lt
  have hst := h.s2
  have hsz := h.z2
  have HD := lh (hdr_get B sz st)
  obtain ⟨p0, p1⟩ := plA_get a b
  have P0 := lh p0
  have P1 := lh p1
  have PI := lh (plA_i a b)
  obtain ⟨g0, g1⟩ := grC_get B st (itF c 0 (st * sz)).length
  have G0 := lh g0
  clear p0 p1 g0 g1 h
  generalize plA a b = pc at *
  generalize grC B st (itF c 0 (st * sz)).length = gc at *
  have d1 : decide (a < 0) = true := decide_eq_true h1
  have hq := eqgT_some ⟨B + 1, 0, none⟩
  go_enter Try.func74, Try.ntmps74
  have hal := (Below.refl w.heap.size w).alloc (Nat.le_refl _) (.cells pc 51)
  replace K := lh (K.out.trans (hal.mono K.out.size))
  replace G := lh (G.out.below hal G.out.lt)
  replace R := lh (R.out.below hal R.out.lt)
  have P := lh (Blk.new w 51 pc)
  clear hal
  go_wp2_with fail
  have hzV1 : Hid ((w.alloc (.cells pc 51)).heap.size = w.heap.size + 1) := by show _ = _; simp only [World.size_alloc]
  generalize (w.alloc (.cells pc 51)) = V1 at *
  refine wp_region_held (S := (fun w' : World => Below (V1.heap.size) V1 w')) (by kernel_rfl) ?_
  change wpAnyH _ _ _ _ _ _ _ _ V1.drew
  have hy : Below V1.heap.size V1 V1.drew := (Below.refl _ _).drew
  have hE0 : Below (V1.heap.size) V1 V1.drew := (Below.refl _ _).drew
  clear hy
  generalize V1.drew = Y1x0 at hE0  ⊢
  have E0 := lh hE0
  clear hE0
  refine tkA 0 (?_) ?_ E0.out ?_
  rotate_left
  · (intro w1 hS; go_simp; try with_reducible rfl)
  simp only [Act.put, tS1, tS2, tS3]
  refine tkA 1 (?_) ?_ E0.out ?_
  rotate_left
  · (intro w1 hS; go_simp; try with_reducible rfl)
  simp only [Act.put, tS1, tS2, tS3]
  refine tkA 2 (?_) ?_ E0.out ?_
  rotate_left
  · (intro w1 hS; go_simp; try with_reducible rfl)
  simp only [Act.put, tS1, tS2, tS3]
  refine tkA 3 (?_) ?_ E0.out ?_
  rotate_left
  · (intro w1 hS; go_simp; try with_reducible rfl)
  simp only [Act.put, tS1, tS2, tS3]
  refine tkA 4 (?_) ?_ E0.out ?_
  rotate_left
  · (intro w1 hS; have hW := hS; have q := ((P.out.below hW P.out.lt).cell 0).trans P0.out; clear hW hS; go_simp; try with_reducible rfl)
  simp only [Act.put, tS1, tS2, tS3]
  refine tkA 5 (?_) ?_ E0.out ?_
  rotate_left
  · (intro w1 hS; go_simp; try with_reducible rfl)
  simp only [Act.put, tS1, tS2, tS3]
  refine tkA 6 (?_) ?_ E0.out ?_
  rotate_left
  · (intro w1 hS; go_simp; try with_reducible rfl)
  simp only [Act.put, tS1, tS2, tS3]
  refine tkA 7 (?_) ?_ E0.out ?_
  rotate_left
  · (intro w1 hS; go_simp; try with_reducible rfl)
  simp only [Act.put, tS1, tS2, tS3]
  refine tkN 8 E0.out ?_
  simp only [Act.put, tS1, tS2, tS3]
  refine tkN 9 E0.out ?_
  simp only [Act.put, tS1, tS2, tS3]
  refine tkN 10 E0.out ?_
  simp only [Act.put, tS1, tS2, tS3]
  refine tkN 11 E0.out ?_
  simp only [Act.put, tS1, tS2, tS3]
  refine tkN 12 E0.out ?_
  simp only [Act.put, tS1, tS2, tS3]
  refine tkN 13 E0.out ?_
  simp only [Act.put, tS1, tS2, tS3]
  refine tkN 14 E0.out ?_
  simp only [Act.put, tS1, tS2, tS3]
  refine tkN 15 E0.out ?_
  simp only [Act.put, tS1, tS2, tS3]
  refine tkA 16 (?_) ?_ E0.out ?_
  rotate_left
  · (intro w1 hS; go_simp; try with_reducible rfl)
  simp only [Act.put, tS1, tS2, tS3]
  refine wpAnyH_done (by kernel_rfl) ?_ _
  have hy := E0.out
  replace K := lh (K.out.trans (hy.mono K.out.size))
  replace G := lh (G.out.below hy G.out.lt)
  replace R := lh (R.out.below hy R.out.lt)
  replace P := lh (P.out.below hy P.out.lt)
  clear hy E0
  go_wp2
  go_ret
  exact ⟨rfl, K.out⟩
set_option maxRecDepth 100000 in
set_option maxHeartbeats 4000000 in
theorem inT_hi (B st sz : Nat) (c : Nat → Option Se) (a b : Int) (h1 : 0 ≤ a ∧ (st : Int) ≤ a) (w : World) (h : GdT B st sz c w) :
    Calls Try.prog 74 #[.pointer (some ⟨B + 1, 0, none⟩), .agg (plA a b)] w fun e w' => e = .returned (.bool false) ∧ Below w.heap.size w w' := by
  have K := lh (Below.refl w.heap.size w)
  have G := lh h.G
  have R := lh h.R
  have hlt := h.lt
  have hst := h.s2
  have hsz := h.z2
  have HD := lh (hdr_get B sz st)
  obtain ⟨p0, p1⟩ := plA_get a b
  have P0 := lh p0
  have P1 := lh p1
  have PI := lh (plA_i a b)
  obtain ⟨g0, g1⟩ := grC_get B st (itF c 0 (st * sz)).length
  have G0 := lh g0
  clear p0 p1 g0 g1 h
  generalize plA a b = pc at *
  generalize grC B st (itF c 0 (st * sz)).length = gc at *
  obtain ⟨q1, q2⟩ := h1
  have d1 : decide (a < 0) = false := decide_eq_false (by omega)
  have d2 : decide (a ≥ (st : Int)) = true := decide_eq_true (by omega)
  have d3 : decide ((st : Int) ≤ a) = true := decide_eq_true (by omega)
  have hq := eqgT_some ⟨B + 1, 0, none⟩
  go_enter Try.func74, Try.ntmps74
  have hal := (Below.refl w.heap.size w).alloc (Nat.le_refl _) (.cells pc 51)
  replace K := lh (K.out.trans (hal.mono K.out.size))
  replace G := lh (G.out.below hal G.out.lt)
  replace R := lh (R.out.below hal R.out.lt)
  have P := lh (Blk.new w 51 pc)
  clear hal
  go_wp2_with fail
  have hzV1 : Hid ((w.alloc (.cells pc 51)).heap.size = w.heap.size + 1) := by show _ = _; simp only [World.size_alloc]
  generalize (w.alloc (.cells pc 51)) = V1 at *
  refine wp_region_held (S := (fun w' : World => Below (V1.heap.size) V1 w')) (by kernel_rfl) ?_
  change wpAnyH _ _ _ _ _ _ _ _ V1.drew
  have hy : Below V1.heap.size V1 V1.drew := (Below.refl _ _).drew
  have hE0 : Below (V1.heap.size) V1 V1.drew := (Below.refl _ _).drew
  clear hy
  generalize V1.drew = Y1x0 at hE0  ⊢
  have E0 := lh hE0
  clear hE0
  refine tkA 0 (?_) ?_ E0.out ?_
  rotate_left
  · (intro w1 hS; go_simp; try with_reducible rfl)
  simp only [Act.put, tS1, tS2, tS3]
  refine tkA 1 (?_) ?_ E0.out ?_
  rotate_left
  · (intro w1 hS; go_simp; try with_reducible rfl)
  simp only [Act.put, tS1, tS2, tS3]
  refine tkA 2 (?_) ?_ E0.out ?_
  rotate_left
  · (intro w1 hS; go_simp; try with_reducible rfl)
  simp only [Act.put, tS1, tS2, tS3]
  refine tkA 3 (?_) ?_ E0.out ?_
  rotate_left
  · (intro w1 hS; go_simp; try with_reducible rfl)
  simp only [Act.put, tS1, tS2, tS3]
  refine tkA 4 (?_) ?_ E0.out ?_
  rotate_left
  · (intro w1 hS; have hW := hS; have q := ((P.out.below hW P.out.lt).cell 0).trans P0.out; clear hW hS; go_simp; try with_reducible rfl)
  simp only [Act.put, tS1, tS2, tS3]
  refine tkA 5 (?_) ?_ E0.out ?_
  rotate_left
  · (intro w1 hS; go_simp; try with_reducible rfl)
  simp only [Act.put, tS1, tS2, tS3]
  refine tkA 6 (?_) ?_ E0.out ?_
  rotate_left
  · (intro w1 hS; go_simp; try with_reducible rfl)
  simp only [Act.put, tS1, tS2, tS3]
  refine tkA 7 (?_) ?_ E0.out ?_
  rotate_left
  · (intro w1 hS; go_simp; try with_reducible rfl)
  simp only [Act.put, tS1, tS2, tS3]
  refine tkA 8 (?_) ?_ E0.out ?_
  rotate_left
  · (intro w1 hS; go_simp; try with_reducible rfl)
  simp only [Act.put, tS1, tS2, tS3]
  refine tkA 9 (?_) ?_ E0.out ?_
  rotate_left
  · (intro w1 hS; have hW := hS; have q := ((P.out.below hW P.out.lt).cell 0).trans P0.out; clear hW hS; go_simp; try with_reducible rfl)
  simp only [Act.put, tS1, tS2, tS3]
  refine tkA 10 (?_) ?_ E0.out ?_
  rotate_left
  · (intro w1 hS; go_simp; try with_reducible rfl)
  simp only [Act.put, tS1, tS2, tS3]
  refine tkA 11 (?_) ?_ E0.out ?_
  rotate_left
  · (intro w1 hS; go_simp; try with_reducible rfl)
  simp only [Act.put, tS1, tS2, tS3]
  refine tkA 12 (?_) ?_ E0.out ?_
  rotate_left
  · (intro w1 hS; go_simp; try with_reducible rfl)
  simp only [Act.put, tS1, tS2, tS3]
  refine tkA 13 (?_) ?_ E0.out ?_
  rotate_left
  · (intro w1 hS; have hW := hS; have q := ((G.out.below hW G.out.lt).cell 0).trans G0.out; clear hW hS; go_simp; try with_reducible rfl)
  simp only [Act.put, tS1, tS2, tS3]
  refine tkA 14 (?_) ?_ E0.out ?_
  rotate_left
  · (intro w1 hS; go_simp; try with_reducible rfl)
  simp only [Act.put, tS1, tS2, tS3]
  refine tkA 15 (?_) ?_ E0.out ?_
  rotate_left
  · (intro w1 hS; go_simp; try with_reducible rfl)
  simp only [Act.put, tS1, tS2, tS3]
  refine tkA 16 (?_) ?_ E0.out ?_
  rotate_left
  · (intro w1 hS; go_simp; try with_reducible rfl)
  simp only [Act.put, tS1, tS2, tS3]
  refine wpAnyH_done (by kernel_rfl) ?_ _
  have hy := E0.out
  replace K := lh (K.out.trans (hy.mono K.out.size))
  replace G := lh (G.out.below hy G.out.lt)
  replace R := lh (R.out.below hy R.out.lt)
  replace P := lh (P.out.below hy P.out.lt)
  clear hy E0
  go_wp2
  go_ret
  exact ⟨rfl, K.out⟩
set_option maxRecDepth 100000 in
set_option maxHeartbeats 4000000 in
theorem inT_blo (B st sz : Nat) (c : Nat → Option Se) (a b : Int) (h1 : 0 ≤ a ∧ a < (st : Int) ∧ b < 0) (w : World) (h : GdT B st sz c w) :
    Calls Try.prog 74 #[.pointer (some ⟨B + 1, 0, none⟩), .agg (plA a b)] w fun e w' => e = .returned (.bool false) ∧ Below w.heap.size w w' := by
  have K := lh (Below.refl w.heap.size w)
  have G := lh h.G
  have R := lh h.R
  obtain ⟨s, rfl⟩ : ∃ s : Nat, a = (s : Int) := ⟨a.toNat, by omega⟩
  obtain ⟨-, q1, q2⟩ := h1
  have hlt := h.lt
  have hst := h.s2
  have hsz := h.z2
  have HD := lh (hdr_get B sz st)
  obtain ⟨p0, p1⟩ := plA_get (s : Int) b
  have P0 := lh p0
  have P1 := lh p1
  have PI := lh (plA_i (s : Int) b)
  obtain ⟨g0, g1⟩ := grC_get B st (itF c 0 (st * sz)).length
  have G0 := lh g0
  clear p0 p1 g0 g1 h
  generalize plA (s : Int) b = pc at *
  generalize grC B st (itF c 0 (st * sz)).length = gc at *
  have d1 : decide ((s : Int) < 0) = false := decide_eq_false (by omega)
  have d2 : decide ((s : Int) ≥ (st : Int)) = false := decide_eq_false (by omega)
  have d3 : decide ((st : Int) ≤ (s : Int)) = false := decide_eq_false (by omega)
  have d4 : decide (s ≥ st) = false := decide_eq_false (by omega)
  have d5 : decide (st ≤ s) = false := decide_eq_false (by omega)
  have d6 : decide (b ≥ 0) = false := decide_eq_false (by omega)
  have d7 : decide (0 ≤ b) = false := decide_eq_false (by omega)
  have hq := eqgT_some ⟨B + 1, 0, none⟩
  go_enter Try.func74, Try.ntmps74
  have hal := (Below.refl w.heap.size w).alloc (Nat.le_refl _) (.cells pc 51)
  replace K := lh (K.out.trans (hal.mono K.out.size))
  replace G := lh (G.out.below hal G.out.lt)
  replace R := lh (R.out.below hal R.out.lt)
  have P := lh (Blk.new w 51 pc)
  clear hal
  go_wp2_with fail
  have hzV1 : Hid ((w.alloc (.cells pc 51)).heap.size = w.heap.size + 1) := by show _ = _; simp only [World.size_alloc]
  generalize (w.alloc (.cells pc 51)) = V1 at *
  refine wp_region_held (S := (fun w' : World => Below (V1.heap.size) V1 w')) (by kernel_rfl) ?_
  change wpAnyH _ _ _ _ _ _ _ _ V1.drew
  have hy : Below V1.heap.size V1 V1.drew := (Below.refl _ _).drew
  have hE0 : Below (V1.heap.size) V1 V1.drew := (Below.refl _ _).drew
  clear hy
  generalize V1.drew = Y1x0 at hE0  ⊢
  have E0 := lh hE0
  clear hE0
  refine tkA 0 (?_) ?_ E0.out ?_
  rotate_left
  · (intro w1 hS; go_simp; try with_reducible rfl)
  simp only [Act.put, tS1, tS2, tS3]
  refine tkA 1 (?_) ?_ E0.out ?_
  rotate_left
  · (intro w1 hS; go_simp; try with_reducible rfl)
  simp only [Act.put, tS1, tS2, tS3]
  refine tkA 2 (?_) ?_ E0.out ?_
  rotate_left
  · (intro w1 hS; go_simp; try with_reducible rfl)
  simp only [Act.put, tS1, tS2, tS3]
  refine tkA 3 (?_) ?_ E0.out ?_
  rotate_left
  · (intro w1 hS; go_simp; try with_reducible rfl)
  simp only [Act.put, tS1, tS2, tS3]
  refine tkA 4 (?_) ?_ E0.out ?_
  rotate_left
  · (intro w1 hS; have hW := hS; have q := ((P.out.below hW P.out.lt).cell 0).trans P0.out; clear hW hS; go_simp; try with_reducible rfl)
  simp only [Act.put, tS1, tS2, tS3]
  refine tkA 5 (?_) ?_ E0.out ?_
  rotate_left
  · (intro w1 hS; go_simp; try with_reducible rfl)
  simp only [Act.put, tS1, tS2, tS3]
  refine tkA 6 (?_) ?_ E0.out ?_
  rotate_left
  · (intro w1 hS; go_simp; try with_reducible rfl)
  simp only [Act.put, tS1, tS2, tS3]
  refine tkA 7 (?_) ?_ E0.out ?_
  rotate_left
  · (intro w1 hS; go_simp; try with_reducible rfl)
  simp only [Act.put, tS1, tS2, tS3]
  refine tkA 8 (?_) ?_ E0.out ?_
  rotate_left
  · (intro w1 hS; go_simp; try with_reducible rfl)
  simp only [Act.put, tS1, tS2, tS3]
  refine tkA 9 (?_) ?_ E0.out ?_
  rotate_left
  · (intro w1 hS; have hW := hS; have q := ((P.out.below hW P.out.lt).cell 0).trans P0.out; clear hW hS; go_simp; try with_reducible rfl)
  simp only [Act.put, tS1, tS2, tS3]
  refine tkA 10 (?_) ?_ E0.out ?_
  rotate_left
  · (intro w1 hS; go_simp; try with_reducible rfl)
  simp only [Act.put, tS1, tS2, tS3]
  refine tkA 11 (?_) ?_ E0.out ?_
  rotate_left
  · (intro w1 hS; go_simp; try with_reducible rfl)
  simp only [Act.put, tS1, tS2, tS3]
  refine tkA 12 (?_) ?_ E0.out ?_
  rotate_left
  · (intro w1 hS; go_simp; try with_reducible rfl)
  simp only [Act.put, tS1, tS2, tS3]
  refine tkA 13 (?_) ?_ E0.out ?_
  rotate_left
  · (intro w1 hS; have hW := hS; have q := ((G.out.below hW G.out.lt).cell 0).trans G0.out; clear hW hS; go_simp; try with_reducible rfl)
  simp only [Act.put, tS1, tS2, tS3]
  refine tkA 14 (?_) ?_ E0.out ?_
  rotate_left
  · (intro w1 hS; go_simp; try with_reducible rfl)
  simp only [Act.put, tS1, tS2, tS3]
  refine tkA 15 (?_) ?_ E0.out ?_
  rotate_left
  · (intro w1 hS; go_simp; try with_reducible rfl)
  simp only [Act.put, tS1, tS2, tS3]
  refine tkA 16 (?_) ?_ E0.out ?_
  rotate_left
  · (intro w1 hS; go_simp; try with_reducible rfl)
  simp only [Act.put, tS1, tS2, tS3]
  refine wpAnyH_done (by kernel_rfl) ?_ _
  have hy := E0.out
  replace K := lh (K.out.trans (hy.mono K.out.size))
  replace G := lh (G.out.below hy G.out.lt)
  replace R := lh (R.out.below hy R.out.lt)
  replace P := lh (P.out.below hy P.out.lt)
  clear hy E0
  go_wp2_with fail
  refine wp_region_held (S := (fun w' : World => Below (Y1x0.heap.size) Y1x0 w')) (by kernel_rfl) ?_
  change wpAnyH _ _ _ _ _ _ _ _ Y1x0.drew
  have hy : Below Y1x0.heap.size Y1x0 Y1x0.drew := (Below.refl _ _).drew
  have hE0 : Below (Y1x0.heap.size) Y1x0 Y1x0.drew := (Below.refl _ _).drew
  clear hy
  generalize Y1x0.drew = Y3x0 at hE0  ⊢
  have E0 := lh hE0
  clear hE0
  refine tkA 0 (?_) ?_ E0.out ?_
  rotate_left
  · (intro w1 hS; go_simp; try with_reducible rfl)
  simp only [Act.put, tS1, tS2, tS3]
  refine tkA 1 (?_) ?_ E0.out ?_
  rotate_left
  · (intro w1 hS; have hW := hS; have q := ((P.out.below hW P.out.lt).cell 1).trans P1.out; clear hW hS; go_simp; try with_reducible rfl)
  simp only [Act.put, tS1, tS2, tS3]
  refine tkA 2 (?_) ?_ E0.out ?_
  rotate_left
  · (intro w1 hS; go_simp; try with_reducible rfl)
  simp only [Act.put, tS1, tS2, tS3]
  refine tkA 3 (?_) ?_ E0.out ?_
  rotate_left
  · (intro w1 hS; go_simp; try with_reducible rfl)
  simp only [Act.put, tS1, tS2, tS3]
  refine tkN 4 E0.out ?_
  simp only [Act.put, tS1, tS2, tS3]
  refine tkN 5 E0.out ?_
  simp only [Act.put, tS1, tS2, tS3]
  refine tkN 6 E0.out ?_
  simp only [Act.put, tS1, tS2, tS3]
  refine tkN 7 E0.out ?_
  simp only [Act.put, tS1, tS2, tS3]
  refine tkN 8 E0.out ?_
  simp only [Act.put, tS1, tS2, tS3]
  refine tkN 9 E0.out ?_
  simp only [Act.put, tS1, tS2, tS3]
  refine tkN 10 E0.out ?_
  simp only [Act.put, tS1, tS2, tS3]
  refine tkN 11 E0.out ?_
  simp only [Act.put, tS1, tS2, tS3]
  refine tkN 12 E0.out ?_
  simp only [Act.put, tS1, tS2, tS3]
  refine tkN 13 E0.out ?_
  simp only [Act.put, tS1, tS2, tS3]
  refine tkN 14 E0.out ?_
  simp only [Act.put, tS1, tS2, tS3]
  refine tkN 15 E0.out ?_
  simp only [Act.put, tS1, tS2, tS3]
  refine tkA 16 (?_) ?_ E0.out ?_
  rotate_left
  · (intro w1 hS; go_simp; try with_reducible rfl)
  simp only [Act.put, tS1, tS2, tS3]
  refine tkA 17 (?_) ?_ E0.out ?_
  rotate_left
  · (intro w1 hS; go_simp; try with_reducible rfl)
  simp only [Act.put, tS1, tS2, tS3]
  refine wpAnyH_done (by kernel_rfl) ?_ _
  have hy := E0.out
  replace K := lh (K.out.trans (hy.mono K.out.size))
  replace G := lh (G.out.below hy G.out.lt)
  replace R := lh (R.out.below hy R.out.lt)
  replace P := lh (P.out.below hy P.out.lt)
  clear hy E0
  go_wp2
  go_ret
  exact ⟨rfl, K.out⟩
set_option maxRecDepth 100000 in
set_option maxHeartbeats 4000000 in
theorem inT_bhi (B st sz : Nat) (c : Nat → Option Se) (a b : Int) (h1 : 0 ≤ a ∧ a < (st : Int) ∧ (sz : Int) ≤ b) (w : World) (h : GdT B st sz c w) :
    Calls Try.prog 74 #[.pointer (some ⟨B + 1, 0, none⟩), .agg (plA a b)] w fun e w' => e = .returned (.bool false) ∧ Below w.heap.size w w' := by
  have K := lh (Below.refl w.heap.size w)
  have G := lh h.G
  have R := lh h.R
  obtain ⟨s, rfl⟩ : ∃ s : Nat, a = (s : Int) := ⟨a.toNat, by omega⟩
  obtain ⟨-, q1, q3⟩ := h1
  have hlt := h.lt
  have hst := h.s2
  have hsz := h.z2
  have HD := lh (hdr_get B sz st)
  obtain ⟨p0, p1⟩ := plA_get (s : Int) b
  have P0 := lh p0
  have P1 := lh p1
  have PI := lh (plA_i (s : Int) b)
  obtain ⟨g0, g1⟩ := grC_get B st (itF c 0 (st * sz)).length
  have G0 := lh g0
  clear p0 p1 g0 g1 h
  generalize plA (s : Int) b = pc at *
  generalize grC B st (itF c 0 (st * sz)).length = gc at *
  have d1 : decide ((s : Int) < 0) = false := decide_eq_false (by omega)
  have d2 : decide ((s : Int) ≥ (st : Int)) = false := decide_eq_false (by omega)
  have d3 : decide ((st : Int) ≤ (s : Int)) = false := decide_eq_false (by omega)
  have d4 : decide (s ≥ st) = false := decide_eq_false (by omega)
  have d5 : decide (st ≤ s) = false := decide_eq_false (by omega)
  have d6 : decide (b ≥ 0) = true := decide_eq_true (by omega)
  have d7 : decide (0 ≤ b) = true := decide_eq_true (by omega)
  have d8 : decide (b < (sz : Int)) = false := decide_eq_false (by omega)
  have hs0 : 0 ≤ (s : Int) ∧ (s : Int) < (st : Int) := by omega
  have hs1 : s < st := by omega
  have hq := eqgT_some ⟨B + 1, 0, none⟩
  go_enter Try.func74, Try.ntmps74
  have hal := (Below.refl w.heap.size w).alloc (Nat.le_refl _) (.cells pc 51)
  replace K := lh (K.out.trans (hal.mono K.out.size))
  replace G := lh (G.out.below hal G.out.lt)
  replace R := lh (R.out.below hal R.out.lt)
  have P := lh (Blk.new w 51 pc)
  clear hal
  go_wp2_with fail
  have hzV1 : Hid ((w.alloc (.cells pc 51)).heap.size = w.heap.size + 1) := by show _ = _; simp only [World.size_alloc]
  generalize (w.alloc (.cells pc 51)) = V1 at *
  refine wp_region_held (S := (fun w' : World => Below (V1.heap.size) V1 w')) (by kernel_rfl) ?_
  change wpAnyH _ _ _ _ _ _ _ _ V1.drew
  have hy : Below V1.heap.size V1 V1.drew := (Below.refl _ _).drew
  have hE0 : Below (V1.heap.size) V1 V1.drew := (Below.refl _ _).drew
  clear hy
  generalize V1.drew = Y1x0 at hE0  ⊢
  have E0 := lh hE0
  clear hE0
  refine tkA 0 (?_) ?_ E0.out ?_
  rotate_left
  · (intro w1 hS; go_simp; try with_reducible rfl)
  simp only [Act.put, tS1, tS2, tS3]
  refine tkA 1 (?_) ?_ E0.out ?_
  rotate_left
  · (intro w1 hS; go_simp; try with_reducible rfl)
  simp only [Act.put, tS1, tS2, tS3]
  refine tkA 2 (?_) ?_ E0.out ?_
  rotate_left
  · (intro w1 hS; go_simp; try with_reducible rfl)
  simp only [Act.put, tS1, tS2, tS3]
  refine tkA 3 (?_) ?_ E0.out ?_
  rotate_left
  · (intro w1 hS; go_simp; try with_reducible rfl)
  simp only [Act.put, tS1, tS2, tS3]
  refine tkA 4 (?_) ?_ E0.out ?_
  rotate_left
  · (intro w1 hS; have hW := hS; have q := ((P.out.below hW P.out.lt).cell 0).trans P0.out; clear hW hS; go_simp; try with_reducible rfl)
  simp only [Act.put, tS1, tS2, tS3]
  refine tkA 5 (?_) ?_ E0.out ?_
  rotate_left
  · (intro w1 hS; go_simp; try with_reducible rfl)
  simp only [Act.put, tS1, tS2, tS3]
  refine tkA 6 (?_) ?_ E0.out ?_
  rotate_left
  · (intro w1 hS; go_simp; try with_reducible rfl)
  simp only [Act.put, tS1, tS2, tS3]
  refine tkA 7 (?_) ?_ E0.out ?_
  rotate_left
  · (intro w1 hS; go_simp; try with_reducible rfl)
  simp only [Act.put, tS1, tS2, tS3]
  refine tkA 8 (?_) ?_ E0.out ?_
  rotate_left
  · (intro w1 hS; go_simp; try with_reducible rfl)
  simp only [Act.put, tS1, tS2, tS3]
  refine tkA 9 (?_) ?_ E0.out ?_
  rotate_left
  · (intro w1 hS; have hW := hS; have q := ((P.out.below hW P.out.lt).cell 0).trans P0.out; clear hW hS; go_simp; try with_reducible rfl)
  simp only [Act.put, tS1, tS2, tS3]
  refine tkA 10 (?_) ?_ E0.out ?_
  rotate_left
  · (intro w1 hS; go_simp; try with_reducible rfl)
  simp only [Act.put, tS1, tS2, tS3]
  refine tkA 11 (?_) ?_ E0.out ?_
  rotate_left
  · (intro w1 hS; go_simp; try with_reducible rfl)
  simp only [Act.put, tS1, tS2, tS3]
  refine tkA 12 (?_) ?_ E0.out ?_
  rotate_left
  · (intro w1 hS; go_simp; try with_reducible rfl)
  simp only [Act.put, tS1, tS2, tS3]
  refine tkA 13 (?_) ?_ E0.out ?_
  rotate_left
  · (intro w1 hS; have hW := hS; have q := ((G.out.below hW G.out.lt).cell 0).trans G0.out; clear hW hS; go_simp; try with_reducible rfl)
  simp only [Act.put, tS1, tS2, tS3]
  refine tkA 14 (?_) ?_ E0.out ?_
  rotate_left
  · (intro w1 hS; go_simp; try with_reducible rfl)
  simp only [Act.put, tS1, tS2, tS3]
  refine tkA 15 (?_) ?_ E0.out ?_
  rotate_left
  · (intro w1 hS; go_simp; try with_reducible rfl)
  simp only [Act.put, tS1, tS2, tS3]
  refine tkA 16 (?_) ?_ E0.out ?_
  rotate_left
  · (intro w1 hS; go_simp; try with_reducible rfl)
  simp only [Act.put, tS1, tS2, tS3]
  refine wpAnyH_done (by kernel_rfl) ?_ _
  have hy := E0.out
  replace K := lh (K.out.trans (hy.mono K.out.size))
  replace G := lh (G.out.below hy G.out.lt)
  replace R := lh (R.out.below hy R.out.lt)
  replace P := lh (P.out.below hy P.out.lt)
  clear hy E0
  go_wp2_with fail
  refine wp_region_held (S := (fun w' : World => Below (Y1x0.heap.size) Y1x0 w')) (by kernel_rfl) ?_
  change wpAnyH _ _ _ _ _ _ _ _ Y1x0.drew
  have hy : Below Y1x0.heap.size Y1x0 Y1x0.drew := (Below.refl _ _).drew
  have hE0 : Below (Y1x0.heap.size) Y1x0 Y1x0.drew := (Below.refl _ _).drew
  clear hy
  generalize Y1x0.drew = Y3x0 at hE0  ⊢
  have E0 := lh hE0
  clear hE0
  refine tkA 0 (?_) ?_ E0.out ?_
  rotate_left
  · (intro w1 hS; go_simp; try with_reducible rfl)
  simp only [Act.put, tS1, tS2, tS3]
  refine tkA 1 (?_) ?_ E0.out ?_
  rotate_left
  · (intro w1 hS; have hW := hS; have q := ((P.out.below hW P.out.lt).cell 1).trans P1.out; clear hW hS; go_simp; try with_reducible rfl)
  simp only [Act.put, tS1, tS2, tS3]
  refine tkA 2 (?_) ?_ E0.out ?_
  rotate_left
  · (intro w1 hS; go_simp; try with_reducible rfl)
  simp only [Act.put, tS1, tS2, tS3]
  refine tkA 3 (?_) ?_ E0.out ?_
  rotate_left
  · (intro w1 hS; go_simp; try with_reducible rfl)
  simp only [Act.put, tS1, tS2, tS3]
  refine tkA 4 (?_) ?_ E0.out ?_
  rotate_left
  · (intro w1 hS; go_simp; try with_reducible rfl)
  simp only [Act.put, tS1, tS2, tS3]
  refine tkA 5 (?_) ?_ E0.out ?_
  rotate_left
  · (intro w1 hS; have hW := hS; have q := ((P.out.below hW P.out.lt).cell 1).trans P1.out; clear hW hS; go_simp; try with_reducible rfl)
  simp only [Act.put, tS1, tS2, tS3]
  refine tkA 6 (?_) ?_ E0.out ?_
  rotate_left
  · (intro w1 hS; go_simp; try with_reducible rfl)
  simp only [Act.put, tS1, tS2, tS3]
  refine tkA 7 (?_) ?_ E0.out ?_
  rotate_left
  · (intro w1 hS; go_simp; try with_reducible rfl)
  simp only [Act.put, tS1, tS2, tS3]
  refine tkA 8 (?_) ?_ E0.out ?_
  rotate_left
  · (intro w1 hS; go_simp; try with_reducible rfl)
  simp only [Act.put, tS1, tS2, tS3]
  refine tkA 9 (?_) ?_ E0.out ?_
  rotate_left
  · (intro w1 hS; have hW := hS; have q := ((G.out.below hW G.out.lt).cell 0).trans G0.out; clear hW hS; go_simp; try with_reducible rfl)
  simp only [Act.put, tS1, tS2, tS3]
  refine tkA 10 (?_) ?_ E0.out ?_
  rotate_left
  · (intro w1 hS; go_simp; try with_reducible rfl)
  simp only [Act.put, tS1, tS2, tS3]
  refine tkA 11 (?_) ?_ E0.out ?_
  rotate_left
  · (intro w1 hS; have hW := hS; have q := ((P.out.below hW P.out.lt).cell 0).trans P0.out; clear hW hS; go_simp; try with_reducible rfl)
  simp only [Act.put, tS1, tS2, tS3]
  refine tkA 12 (?_) ?_ E0.out ?_
  rotate_left
  · (intro w1 hS; go_simp; try with_reducible rfl)
  simp only [Act.put, tS1, tS2, tS3]
  refine tkA 13 (?_) ?_ E0.out ?_
  rotate_left
  · (intro w1 hS; have hW := hS; have q := ((R.out.below hW R.out.lt).cell s).trans (HD.out s hs1); clear hW hS; go_simp; try with_reducible rfl)
  simp only [Act.put, tS1, tS2, tS3]
  refine tkA 14 (?_) ?_ E0.out ?_
  rotate_left
  · (intro w1 hS; go_simp; try with_reducible rfl)
  simp only [Act.put, tS1, tS2, tS3]
  refine tkA 15 (?_) ?_ E0.out ?_
  rotate_left
  · (intro w1 hS; go_simp; try with_reducible rfl)
  simp only [Act.put, tS1, tS2, tS3]
  refine tkA 16 (?_) ?_ E0.out ?_
  rotate_left
  · (intro w1 hS; go_simp; try with_reducible rfl)
  simp only [Act.put, tS1, tS2, tS3]
  refine tkA 17 (?_) ?_ E0.out ?_
  rotate_left
  · (intro w1 hS; go_simp; try with_reducible rfl)
  simp only [Act.put, tS1, tS2, tS3]
  refine wpAnyH_done (by kernel_rfl) ?_ _
  have hy := E0.out
  replace K := lh (K.out.trans (hy.mono K.out.size))
  replace G := lh (G.out.below hy G.out.lt)
  replace R := lh (R.out.below hy R.out.lt)
  replace P := lh (P.out.below hy P.out.lt)
  clear hy E0
  go_wp2
  go_ret
  exact ⟨rfl, K.out⟩
set_option maxRecDepth 100000 in
set_option maxHeartbeats 4000000 in
theorem inT_yes (B st sz : Nat) (c : Nat → Option Se) (a b : Int) (h1 : inP st sz a b) (w : World) (h : GdT B st sz c w) :
    Calls Try.prog 74 #[.pointer (some ⟨B + 1, 0, none⟩), .agg (plA a b)] w fun e w' => e = .returned (.bool true) ∧ Below w.heap.size w w' := by
  have K := lh (Below.refl w.heap.size w)
  have G := lh h.G
  have R := lh h.R
  obtain ⟨s, rfl⟩ : ∃ s : Nat, a = (s : Int) := ⟨a.toNat, by obtain ⟨q1, q2, q3, q4⟩ := h1; omega⟩
  obtain ⟨-, q1, q2, q3⟩ := h1
  have hlt := h.lt
  have hst := h.s2
  have hsz := h.z2
  have HD := lh (hdr_get B sz st)
  obtain ⟨p0, p1⟩ := plA_get (s : Int) b
  have P0 := lh p0
  have P1 := lh p1
  have PI := lh (plA_i (s : Int) b)
  obtain ⟨g0, g1⟩ := grC_get B st (itF c 0 (st * sz)).length
  have G0 := lh g0
  clear p0 p1 g0 g1 h
  generalize plA (s : Int) b = pc at *
  generalize grC B st (itF c 0 (st * sz)).length = gc at *
  have d1 : decide ((s : Int) < 0) = false := decide_eq_false (by omega)
  have d2 : decide ((s : Int) ≥ (st : Int)) = false := decide_eq_false (by omega)
  have d3 : decide ((st : Int) ≤ (s : Int)) = false := decide_eq_false (by omega)
  have d4 : decide (s ≥ st) = false := decide_eq_false (by omega)
  have d5 : decide (st ≤ s) = false := decide_eq_false (by omega)
  have d6 : decide (b ≥ 0) = true := decide_eq_true (by omega)
  have d7 : decide (0 ≤ b) = true := decide_eq_true (by omega)
  have d8 : decide (b < (sz : Int)) = true := decide_eq_true (by omega)
  have hs0 : 0 ≤ (s : Int) ∧ (s : Int) < (st : Int) := by omega
  have hs1 : s < st := by omega
  have hq := eqgT_some ⟨B + 1, 0, none⟩
  go_enter Try.func74, Try.ntmps74
  have hal := (Below.refl w.heap.size w).alloc (Nat.le_refl _) (.cells pc 51)
  replace K := lh (K.out.trans (hal.mono K.out.size))
  replace G := lh (G.out.below hal G.out.lt)
  replace R := lh (R.out.below hal R.out.lt)
  have P := lh (Blk.new w 51 pc)
  clear hal
  go_wp2_with fail
  have hzV1 : Hid ((w.alloc (.cells pc 51)).heap.size = w.heap.size + 1) := by show _ = _; simp only [World.size_alloc]
  generalize (w.alloc (.cells pc 51)) = V1 at *
  refine wp_region_held (S := (fun w' : World => Below (V1.heap.size) V1 w')) (by kernel_rfl) ?_
  change wpAnyH _ _ _ _ _ _ _ _ V1.drew
  have hy : Below V1.heap.size V1 V1.drew := (Below.refl _ _).drew
  have hE0 : Below (V1.heap.size) V1 V1.drew := (Below.refl _ _).drew
  clear hy
  generalize V1.drew = Y1x0 at hE0  ⊢
  have E0 := lh hE0
  clear hE0
  refine tkA 0 (?_) ?_ E0.out ?_
  rotate_left
  · (intro w1 hS; go_simp; try with_reducible rfl)
  simp only [Act.put, tS1, tS2, tS3]
  refine tkA 1 (?_) ?_ E0.out ?_
  rotate_left
  · (intro w1 hS; go_simp; try with_reducible rfl)
  simp only [Act.put, tS1, tS2, tS3]
  refine tkA 2 (?_) ?_ E0.out ?_
  rotate_left
  · (intro w1 hS; go_simp; try with_reducible rfl)
  simp only [Act.put, tS1, tS2, tS3]
  refine tkA 3 (?_) ?_ E0.out ?_
  rotate_left
  · (intro w1 hS; go_simp; try with_reducible rfl)
  simp only [Act.put, tS1, tS2, tS3]
  refine tkA 4 (?_) ?_ E0.out ?_
  rotate_left
  · (intro w1 hS; have hW := hS; have q := ((P.out.below hW P.out.lt).cell 0).trans P0.out; clear hW hS; go_simp; try with_reducible rfl)
  simp only [Act.put, tS1, tS2, tS3]
  refine tkA 5 (?_) ?_ E0.out ?_
  rotate_left
  · (intro w1 hS; go_simp; try with_reducible rfl)
  simp only [Act.put, tS1, tS2, tS3]
  refine tkA 6 (?_) ?_ E0.out ?_
  rotate_left
  · (intro w1 hS; go_simp; try with_reducible rfl)
  simp only [Act.put, tS1, tS2, tS3]
  refine tkA 7 (?_) ?_ E0.out ?_
  rotate_left
  · (intro w1 hS; go_simp; try with_reducible rfl)
  simp only [Act.put, tS1, tS2, tS3]
  refine tkA 8 (?_) ?_ E0.out ?_
  rotate_left
  · (intro w1 hS; go_simp; try with_reducible rfl)
  simp only [Act.put, tS1, tS2, tS3]
  refine tkA 9 (?_) ?_ E0.out ?_
  rotate_left
  · (intro w1 hS; have hW := hS; have q := ((P.out.below hW P.out.lt).cell 0).trans P0.out; clear hW hS; go_simp; try with_reducible rfl)
  simp only [Act.put, tS1, tS2, tS3]
  refine tkA 10 (?_) ?_ E0.out ?_
  rotate_left
  · (intro w1 hS; go_simp; try with_reducible rfl)
  simp only [Act.put, tS1, tS2, tS3]
  refine tkA 11 (?_) ?_ E0.out ?_
  rotate_left
  · (intro w1 hS; go_simp; try with_reducible rfl)
  simp only [Act.put, tS1, tS2, tS3]
  refine tkA 12 (?_) ?_ E0.out ?_
  rotate_left
  · (intro w1 hS; go_simp; try with_reducible rfl)
  simp only [Act.put, tS1, tS2, tS3]
  refine tkA 13 (?_) ?_ E0.out ?_
  rotate_left
  · (intro w1 hS; have hW := hS; have q := ((G.out.below hW G.out.lt).cell 0).trans G0.out; clear hW hS; go_simp; try with_reducible rfl)
  simp only [Act.put, tS1, tS2, tS3]
  refine tkA 14 (?_) ?_ E0.out ?_
  rotate_left
  · (intro w1 hS; go_simp; try with_reducible rfl)
  simp only [Act.put, tS1, tS2, tS3]
  refine tkA 15 (?_) ?_ E0.out ?_
  rotate_left
  · (intro w1 hS; go_simp; try with_reducible rfl)
  simp only [Act.put, tS1, tS2, tS3]
  refine tkA 16 (?_) ?_ E0.out ?_
  rotate_left
  · (intro w1 hS; go_simp; try with_reducible rfl)
  simp only [Act.put, tS1, tS2, tS3]
  refine wpAnyH_done (by kernel_rfl) ?_ _
  have hy := E0.out
  replace K := lh (K.out.trans (hy.mono K.out.size))
  replace G := lh (G.out.below hy G.out.lt)
  replace R := lh (R.out.below hy R.out.lt)
  replace P := lh (P.out.below hy P.out.lt)
  clear hy E0
  go_wp2_with fail
  refine wp_region_held (S := (fun w' : World => Below (Y1x0.heap.size) Y1x0 w')) (by kernel_rfl) ?_
  change wpAnyH _ _ _ _ _ _ _ _ Y1x0.drew
  have hy : Below Y1x0.heap.size Y1x0 Y1x0.drew := (Below.refl _ _).drew
  have hE0 : Below (Y1x0.heap.size) Y1x0 Y1x0.drew := (Below.refl _ _).drew
  clear hy
  generalize Y1x0.drew = Y3x0 at hE0  ⊢
  have E0 := lh hE0
  clear hE0
  refine tkA 0 (?_) ?_ E0.out ?_
  rotate_left
  · (intro w1 hS; go_simp; try with_reducible rfl)
  simp only [Act.put, tS1, tS2, tS3]
  refine tkA 1 (?_) ?_ E0.out ?_
  rotate_left
  · (intro w1 hS; have hW := hS; have q := ((P.out.below hW P.out.lt).cell 1).trans P1.out; clear hW hS; go_simp; try with_reducible rfl)
  simp only [Act.put, tS1, tS2, tS3]
  refine tkA 2 (?_) ?_ E0.out ?_
  rotate_left
  · (intro w1 hS; go_simp; try with_reducible rfl)
  simp only [Act.put, tS1, tS2, tS3]
  refine tkA 3 (?_) ?_ E0.out ?_
  rotate_left
  · (intro w1 hS; go_simp; try with_reducible rfl)
  simp only [Act.put, tS1, tS2, tS3]
  refine tkA 4 (?_) ?_ E0.out ?_
  rotate_left
  · (intro w1 hS; go_simp; try with_reducible rfl)
  simp only [Act.put, tS1, tS2, tS3]
  refine tkA 5 (?_) ?_ E0.out ?_
  rotate_left
  · (intro w1 hS; have hW := hS; have q := ((P.out.below hW P.out.lt).cell 1).trans P1.out; clear hW hS; go_simp; try with_reducible rfl)
  simp only [Act.put, tS1, tS2, tS3]
  refine tkA 6 (?_) ?_ E0.out ?_
  rotate_left
  · (intro w1 hS; go_simp; try with_reducible rfl)
  simp only [Act.put, tS1, tS2, tS3]
  refine tkA 7 (?_) ?_ E0.out ?_
  rotate_left
  · (intro w1 hS; go_simp; try with_reducible rfl)
  simp only [Act.put, tS1, tS2, tS3]
  refine tkA 8 (?_) ?_ E0.out ?_
  rotate_left
  · (intro w1 hS; go_simp; try with_reducible rfl)
  simp only [Act.put, tS1, tS2, tS3]
  refine tkA 9 (?_) ?_ E0.out ?_
  rotate_left
  · (intro w1 hS; have hW := hS; have q := ((G.out.below hW G.out.lt).cell 0).trans G0.out; clear hW hS; go_simp; try with_reducible rfl)
  simp only [Act.put, tS1, tS2, tS3]
  refine tkA 10 (?_) ?_ E0.out ?_
  rotate_left
  · (intro w1 hS; go_simp; try with_reducible rfl)
  simp only [Act.put, tS1, tS2, tS3]
  refine tkA 11 (?_) ?_ E0.out ?_
  rotate_left
  · (intro w1 hS; have hW := hS; have q := ((P.out.below hW P.out.lt).cell 0).trans P0.out; clear hW hS; go_simp; try with_reducible rfl)
  simp only [Act.put, tS1, tS2, tS3]
  refine tkA 12 (?_) ?_ E0.out ?_
  rotate_left
  · (intro w1 hS; go_simp; try with_reducible rfl)
  simp only [Act.put, tS1, tS2, tS3]
  refine tkA 13 (?_) ?_ E0.out ?_
  rotate_left
  · (intro w1 hS; have hW := hS; have q := ((R.out.below hW R.out.lt).cell s).trans (HD.out s hs1); clear hW hS; go_simp; try with_reducible rfl)
  simp only [Act.put, tS1, tS2, tS3]
  refine tkA 14 (?_) ?_ E0.out ?_
  rotate_left
  · (intro w1 hS; go_simp; try with_reducible rfl)
  simp only [Act.put, tS1, tS2, tS3]
  refine tkA 15 (?_) ?_ E0.out ?_
  rotate_left
  · (intro w1 hS; go_simp; try with_reducible rfl)
  simp only [Act.put, tS1, tS2, tS3]
  refine tkA 16 (?_) ?_ E0.out ?_
  rotate_left
  · (intro w1 hS; go_simp; try with_reducible rfl)
  simp only [Act.put, tS1, tS2, tS3]
  refine tkA 17 (?_) ?_ E0.out ?_
  rotate_left
  · (intro w1 hS; go_simp; try with_reducible rfl)
  simp only [Act.put, tS1, tS2, tS3]
  refine wpAnyH_done (by kernel_rfl) ?_ _
  have hy := E0.out
  replace K := lh (K.out.trans (hy.mono K.out.size))
  replace G := lh (G.out.below hy G.out.lt)
  replace R := lh (R.out.below hy R.out.lt)
  replace P := lh (P.out.below hy P.out.lt)
  clear hy E0
  go_wp2
  go_ret
  exact ⟨rfl, K.out⟩
theorem inT_any (B st sz : Nat) (c : Nat → Option Se) (a b : Int) (w : World) (h : GdT B st sz c w) :
    Calls Try.prog 74 #[.pointer (some ⟨B + 1, 0, none⟩), .agg (plA a b)] w fun e w' => e = .returned (.bool (decide (inP st sz a b))) ∧ Below w.heap.size w w' := by
  by_cases hy : inP st sz a b
  · rw [decide_eq_true hy]; exact inT_yes B st sz c a b hy w h
  · rw [decide_eq_false hy]
    unfold inP at hy
    by_cases h1 : a < 0
    · exact inT_lo B st sz c a b h1 w h
    by_cases h2 : (st : Int) ≤ a
    · exact inT_hi B st sz c a b ⟨by omega, h2⟩ w h
    by_cases h3 : b < 0
    · exact inT_blo B st sz c a b ⟨by omega, by omega, h3⟩ w h
    · exact inT_bhi B st sz c a b ⟨by omega, by omega, by omega⟩ w h
end Go.Proofs.Ythldpnifodbheaa
namespace Go.Proofs.Ythldpnifodbheaa
open Go.RowKit Go.Lib
set_option maxRecDepth 100000 in
set_option maxHeartbeats 4000000 in
theorem cellT_no (B st sz : Nat) (c : Nat → Option Se) (a b : Int) (h1 : ¬ inP st sz a b) (w : World) (h : GdT B st sz c w) :
    Calls Try.prog 55 #[.pointer (some ⟨B + 1, 0, none⟩), .agg (plA a b)] w fun e w' => e = .returned (.pointer none) ∧ Below w.heap.size w w' := by
  have K := lh (Below.refl w.heap.size w)
  have HG := lh h
  have CI := lh (fun W h => inT_any B st sz c a b W h)
  rw [decide_eq_false h1] at CI
  clear h h1
  have PI := lh (plA_i a b)
  generalize plA a b = pc at *
  go_enter Try.func55, Try.ntmps55
  have hal := (Below.refl w.heap.size w).alloc (Nat.le_refl _) (.cells pc 51)
  replace K := lh (K.out.trans (hal.mono K.out.size))
  replace HG := lh (HG.out.below hal)
  have P := lh (Blk.new w 51 pc)
  clear hal
  have L1 : (loadVar 51 ⟨w.heap.size, 0, none⟩).run Try.prog (w.alloc (.cells pc 51)) = .ok (.agg pc) (w.alloc (.cells pc 51)) := run_blk_load (P := Try.prog) 51 (w.heap.size) _ P.out Try.underlying51 rfl PI.out
  replace L1 := lh L1
  go_wp2_with (((with_reducible refine wpList_load_want (op := ⟨some 6, .load 51 (.tmp 3), _, _, _, _⟩) ?wg1 51 (.tmp 3) ?wo1 ⟨w.heap.size, 0, none⟩ ?wx1 (.agg pc) L1.out ?_); (case wg1 => rfl); (case wo1 => rfl); (case wx1 => rfl)))
  clear L1
  have hzV1 : Hid ((w.alloc (.cells pc 51)).heap.size = w.heap.size + 1) := by show _ = _; simp only [World.size_alloc]
  generalize (w.alloc (.cells pc 51)) = V1 at *
  refine (CI.out V1 HG.out).mono ?_
  rintro e V2 ⟨rfl, hy⟩
  replace K := lh (K.out.trans (hy.mono K.out.size))
  replace HG := lh (HG.out.below hy)
  replace P := lh (P.out.below hy P.out.lt)
  clear hy
  go_wp2
  go_ret
  exact ⟨rfl, K.out⟩
set_option maxRecDepth 100000 in
set_option maxHeartbeats 4000000 in
theorem cellT_yes (B st sz : Nat) (c : Nat → Option Se) (s i : Nat) (hs : s < st) (hi : i < sz) (w : World) (h : GdT B st sz c w) :
    Calls Try.prog 55 #[.pointer (some ⟨B + 1, 0, none⟩), .agg (plA s i)] w fun e w' => e = .returned (.pointer (some ⟨B + 2 + s, i * 42, none⟩)) ∧ Below w.heap.size w w' := by
  have K := lh (Below.refl w.heap.size w)
  have HG := lh h
  have CI := lh (fun W h => inT_any B st sz c s i W h)
  rw [decide_eq_true (show inP st sz (s : Int) (i : Int) from ⟨by omega, by omega, by omega, by omega⟩)] at CI
  have HD := lh (hdr_get B sz st s hs)
  obtain ⟨p0, p1⟩ := plA_get (s : Int) (i : Int)
  have P0 := lh p0
  have P1 := lh p1
  have PI := lh (plA_i (s : Int) (i : Int))
  obtain ⟨g0, g1⟩ := grC_get B st (itF c 0 (st * sz)).length
  have G0 := lh g0
  have hst := h.s2
  have hsz := h.z2
  have hs0 : 0 ≤ (s : Int) ∧ (s : Int) < (st : Int) := by omega
  have hi0 : 0 ≤ (i : Int) ∧ (i : Int) < (sz : Int) := by omega
  clear p0 p1 g0 g1 h
  generalize plA (s : Int) (i : Int) = pc at *
  go_enter Try.func55, Try.ntmps55
  have hal := (Below.refl w.heap.size w).alloc (Nat.le_refl _) (.cells pc 51)
  replace K := lh (K.out.trans (hal.mono K.out.size))
  replace HG := lh (HG.out.below hal)
  have P := lh (Blk.new w 51 pc)
  clear hal
  have L2 : (loadVar 51 ⟨w.heap.size, 0, none⟩).run Try.prog (w.alloc (.cells pc 51)) = .ok (.agg pc) (w.alloc (.cells pc 51)) := run_blk_load (P := Try.prog) 51 (w.heap.size) _ P.out Try.underlying51 rfl PI.out
  replace L2 := lh L2
  go_wp2_with (((with_reducible refine wpList_load_want (op := ⟨some 6, .load 51 (.tmp 3), _, _, _, _⟩) ?wg2 51 (.tmp 3) ?wo2 ⟨w.heap.size, 0, none⟩ ?wx2 (.agg pc) L2.out ?_); (case wg2 => rfl); (case wo2 => rfl); (case wx2 => rfl)))
  clear L2
  have hzV1 : Hid ((w.alloc (.cells pc 51)).heap.size = w.heap.size + 1) := by show _ = _; simp only [World.size_alloc]
  generalize (w.alloc (.cells pc 51)) = V1 at *
  refine (CI.out V1 HG.out).mono ?_
  rintro e V2 ⟨rfl, hy⟩
  replace K := lh (K.out.trans (hy.mono K.out.size))
  replace HG := lh (HG.out.below hy)
  replace P := lh (P.out.below hy P.out.lt)
  clear hy
  have G := lh HG.out.G
  have R := lh HG.out.R
  generalize grC B st (itF c 0 (st * sz)).length = gc at *
  go_wp2_with fail
  refine wp_region_held (S := (fun w' : World => Below (V2.heap.size) V2 w')) (by kernel_rfl) ?_
  change wpAnyH _ _ _ _ _ _ _ _ V2.drew
  have hy : Below V2.heap.size V2 V2.drew := (Below.refl _ _).drew
  have hE0 : Below (V2.heap.size) V2 V2.drew := (Below.refl _ _).drew
  clear hy
  generalize V2.drew = Y3x0 at hE0  ⊢
  have E0 := lh hE0
  clear hE0
  refine tkA 0 (?_) ?_ E0.out ?_
  rotate_left
  · (intro w1 hS; go_simp; try with_reducible rfl)
  simp only [Act.put, tS1, tS2, tS3]
  refine tkA 1 (?_) ?_ E0.out ?_
  rotate_left
  · (intro w1 hS; go_simp; try with_reducible rfl)
  simp only [Act.put, tS1, tS2, tS3]
  refine tkA 2 (?_) ?_ E0.out ?_
  rotate_left
  · (intro w1 hS; go_simp; try with_reducible rfl)
  simp only [Act.put, tS1, tS2, tS3]
  refine tkA 3 (?_) ?_ E0.out ?_
  rotate_left
  · (intro w1 hS; have hW := hS; have q := ((G.out.below hW G.out.lt).cell 0).trans G0.out; clear hW hS; go_simp; try with_reducible rfl)
  simp only [Act.put, tS1, tS2, tS3]
  refine tkA 4 (?_) ?_ E0.out ?_
  rotate_left
  · (intro w1 hS; go_simp; try with_reducible rfl)
  simp only [Act.put, tS1, tS2, tS3]
  refine tkA 5 (?_) ?_ E0.out ?_
  rotate_left
  · (intro w1 hS; have hW := hS; have q := ((P.out.below hW P.out.lt).cell 0).trans P0.out; clear hW hS; go_simp; try with_reducible rfl)
  simp only [Act.put, tS1, tS2, tS3]
  refine tkA 6 (?_) ?_ E0.out ?_
  rotate_left
  · (intro w1 hS; go_simp; try with_reducible rfl)
  simp only [Act.put, tS1, tS2, tS3]
  refine tkA 7 (?_) ?_ E0.out ?_
  rotate_left
  · (intro w1 hS; have hW := hS; have q := ((R.out.below hW R.out.lt).cell s).trans HD.out; clear hW hS; go_simp; try with_reducible rfl)
  simp only [Act.put, tS1, tS2, tS3]
  refine tkA 8 (?_) ?_ E0.out ?_
  rotate_left
  · (intro w1 hS; go_simp; try with_reducible rfl)
  simp only [Act.put, tS1, tS2, tS3]
  refine tkA 9 (?_) ?_ E0.out ?_
  rotate_left
  · (intro w1 hS; have hW := hS; have q := ((P.out.below hW P.out.lt).cell 1).trans P1.out; clear hW hS; go_simp; try with_reducible rfl)
  simp only [Act.put, tS1, tS2, tS3]
  refine tkA 10 (?_) ?_ E0.out ?_
  rotate_left
  · (intro w1 hS; go_simp; try with_reducible rfl)
  simp only [Act.put, tS1, tS2, tS3]
  refine tkA 11 (?_) ?_ E0.out ?_
  rotate_left
  · (intro w1 hS; go_simp; try with_reducible rfl)
  simp only [Act.put, tS1, tS2, tS3]
  refine wpAnyH_done (by kernel_rfl) ?_ _
  have hy := E0.out
  replace K := lh (K.out.trans (hy.mono K.out.size))
  replace HG := lh (HG.out.below hy)
  replace P := lh (P.out.below hy P.out.lt)
  replace G := lh (G.out.below hy G.out.lt)
  replace R := lh (R.out.below hy R.out.lt)
  clear hy E0
  go_wp2
  go_ret
  exact ⟨rfl, K.out⟩
end Go.Proofs.Ythldpnifodbheaa
namespace Go.Proofs.Ythldpnifodbheaa
open Go.RowKit Go.Lib
def lkP {α : Type} (st sz : Nat) (c : Nat → Option α) (a b : Int) : Option α := if inP st sz a b then c (a.toNat * sz + b.toNat) else none
def ptP {α : Type} (st sz : Nat) (c : Nat → Option α) (a b : Int) (v : Option α) : Nat → Option α := if inP st sz a b then putC c (a.toNat * sz + b.toNat) v else c
theorem lkP_in {α : Type} {st sz : Nat} (c : Nat → Option α) {s i : Nat} (hs : s < st) (hi : i < sz) : lkP st sz c s i = c (s * sz + i) := by
  unfold lkP; rw [if_pos ⟨by omega, by omega, by omega, by omega⟩, Int.toNat_natCast, Int.toNat_natCast]
theorem ptP_in {α : Type} {st sz : Nat} (c : Nat → Option α) {s i : Nat} (hs : s < st) (hi : i < sz) (v : Option α) : ptP st sz c s i v = putC c (s * sz + i) v := by
  unfold ptP; rw [if_pos ⟨by omega, by omega, by omega, by omega⟩, Int.toNat_natCast, Int.toNat_natCast]
theorem lkP_no {α : Type} {st sz : Nat} (c : Nat → Option α) {a b : Int} (h : ¬ inP st sz a b) : lkP st sz c a b = none := if_neg h
theorem ptP_no {α : Type} {st sz : Nat} (c : Nat → Option α) {a b : Int} (h : ¬ inP st sz a b) (v : Option α) : ptP st sz c a b v = c := if_neg h
theorem inP_nat {st sz : Nat} {a b : Int} (h : inP st sz a b) : ∃ s i : Nat, a = (s : Int) ∧ b = (i : Int) ∧ s < st ∧ i < sz := by
  obtain ⟨h1, h2, h3, h4⟩ := h
  exact ⟨a.toNat, b.toNat, by omega, by omega, by omega, by omega⟩
theorem num_lt {st sz s i : Nat} (hs : s < st) (hi : i < sz) : s * sz + i < st * sz := plc_lt sz s i hi st hs
theorem len_set {α : Type} (c : Nat → Option α) (n k : Nat) (h : k < n) (v : α) (hc : c k = none) : (itF (putC c k (some v)) 0 n).length = (itF c 0 n).length + 1 := by
  rw [itF_put c n k _ h, itF_at c n k h, hc]; simp; omega
theorem len_again {α : Type} (c : Nat → Option α) (n k : Nat) (h : k < n) (u v : α) (hc : c k = some u) : (itF (putC c k (some v)) 0 n).length = (itF c 0 n).length := by
  rw [itF_put c n k _ h, itF_at c n k h, hc]; simp
theorem len_free {α : Type} (c : Nat → Option α) (n k : Nat) (h : k < n) (u : α) (hc : c k = some u) : (itF (putC c k none) 0 n).length + 1 = (itF c 0 n).length := by
  rw [itF_put c n k _ h, itF_at c n k h, hc]; simp; omega
theorem sz_le {st sz : Nat} (h1 : st ≤ 4) (h2 : sz ≤ 1024) : st * sz ≤ 4096 := Nat.mul_le_mul h1 h2
theorem GS.put {α : Type} {tG tR tC : TypeId} {enc : Option α → List Value} {B st sz : Nat} {c : Nat → Option α} {W W' : World} (h : GS tG tR tC enc B st sz c W) (s i : Nat) (hi : i < sz) (v : Option α) (n : Nat)
    (hn : (itF (putC c (s * sz + i) v) 0 (st * sz)).length = n) (hG : Blk W' (B + 1) tG (grC B st n)) (hC : Blk W' (B + 2 + s) tC (rowC enc (putC c (s * sz + i) v) (s * sz) sz).toArray)
    (hk : ∀ k, k < W.heap.size → k ≠ B + 1 → k ≠ B + 2 + s → W'.heap[k]? = W.heap[k]?) : GS tG tR tC enc B st sz (putC c (s * sz + i) v) W' := by
  have hl := h.lt
  refine ⟨hn ▸ hG, (hk B (by omega) (by omega) (by omega)).trans h.R, fun s' hs' => ?_, h.s1, h.s2, h.z1, h.z2⟩
  by_cases e : s' = s
  · subst e; exact hC
  · rw [rowC_far enc c (s' * sz) sz (s * sz + i) ?_ v]
    · exact (hk _ (by omega) (by omega) (by omega)).trans (h.C s' hs')
    · rcases Nat.lt_or_ge s s' with q | q
      · exact .inl (plc_lt sz s i hi s' q)
      · right
        have := Nat.mul_le_mul_right sz (show s' + 1 ≤ s by omega)
        rw [Nat.succ_mul] at this; omega
theorem GS.cellAt {α : Type} {tG tR tC : TypeId} {enc : Option α → List Value} {B st sz : Nat} {c : Nat → Option α} {W : World} (h : GS tG tR tC enc B st sz c W) (m : Nat) (he : ∀ o, (enc o).length = m) (s i j : Nat) (hs : s < st) (hi : i < sz) (hj : j < m) : W.cell? ⟨B + 2 + s, i * m + j, none⟩ = (enc (c (s * sz + i)))[j]? := by
  rw [(h.C s hs).cell, List.getElem?_toArray, rowC_get enc m he c (s * sz) sz i j hi hj]
theorem eqcT_none (W : World) : (binOp .eql 127 (.pointer none) (.pointer none)).run Try.prog W = .ok (.bool true) W := by kernel_rfl
theorem eqcT_some (p : Addr) (W : World) : (binOp .eql 127 (.pointer (some p)) (.pointer none)).run Try.prog W = .ok (.bool false) W := by kernel_rfl
theorem i130 : (Try.prog.info? 130).map (·.size) = some 42 := by kernel_rfl
theorem zero84 (W : World) : (zeroValue 84).run Try.prog W = .ok (.agg zSe) W := by kernel_rfl
theorem zz84 : Hid (zSe.size = zSe.size) := rfl
theorem i84 : (Try.prog.info? 84).map (·.size) = some 41 := by kernel_rfl
set_option maxRecDepth 100000 in
set_option maxHeartbeats 4000000 in
theorem lenT_any (B st sz : Nat) (c : Nat → Option Se) (w : World) (h : GdT B st sz c w) :
    Calls Try.prog 32 #[.pointer (some ⟨B + 1, 0, none⟩)] w fun e w' => e = .returned (.int .i64 ((itF c 0 (st * sz)).length : Int)) ∧ Below w.heap.size w w' := by
  have K := lh (Below.refl w.heap.size w)
  have c1 := (h.G.cell 1).trans (grC_get B st (itF c 0 (st * sz)).length).2
  have hq := eqgT_some ⟨B + 1, 0, none⟩
  generalize (itF c 0 (st * sz)).length = n at *
  clear h
  go_enter Try.func32, Try.ntmps32
  go_wp2
  go_ret
  exact ⟨rfl, K.out⟩
set_option maxRecDepth 100000 in
set_option maxHeartbeats 4000000 in
theorem getT_no (B st sz : Nat) (c : Nat → Option Se) (a b : Int) (h1 : ¬ inP st sz a b) (w : World) (h : GdT B st sz c w) :
    Calls Try.prog 36 #[.pointer (some ⟨B + 1, 0, none⟩), .agg (plA a b)] w fun e w' => e = .returned (.tuple #[.agg zSe, .bool false]) ∧ Below w.heap.size w w' := by
  have K := lh (Below.refl w.heap.size w)
  have HG := lh h
  have CC := lh (fun W h => cellT_no B st sz c a b h1 W h)
  have hlt := h.lt
  clear h h1
  have PI := lh (plA_i a b)
  generalize plA a b = pc at *
  have hq := eqcT_none
  go_enter Try.func36, Try.ntmps36
  have hal := (Below.refl w.heap.size w).alloc (Nat.le_refl _) (.cells pc 51)
  replace K := lh (K.out.trans (hal.mono K.out.size))
  replace HG := lh (HG.out.below hal)
  have P := lh (Blk.new w 51 pc)
  clear hal
  have ZI : Hid ((Try.prog.info? 84).map (·.size) = some zSe.size) := by rw [zSe_size]; exact i84
  have ZA : Hid (zSe.all (·.oneCell') = true) := oC_all none
  have hz84 := zero84
  have hal := (Below.refl (w.alloc (.cells pc 51)).heap.size (w.alloc (.cells pc 51))).alloc (Nat.le_refl _) (.cells zSe 84)
  replace K := lh (K.out.trans (hal.mono K.out.size))
  replace HG := lh (HG.out.below hal)
  replace P := lh (P.out.below hal P.out.lt)
  have Rq := Blk.new (w.alloc (.cells pc 51)) 84 zSe
  simp only [World.size_alloc] at Rq
  have R := lh Rq
  clear Rq
  clear hal
  have L1 : (loadVar 51 ⟨w.heap.size, 0, none⟩).run Try.prog ((w.alloc (.cells pc 51)).alloc (.cells zSe 84)) = .ok (.agg pc) ((w.alloc (.cells pc 51)).alloc (.cells zSe 84)) := run_blk_load (P := Try.prog) 51 (w.heap.size) _ P.out Try.underlying51 rfl PI.out
  replace L1 := lh L1
  go_wp2_with (((with_reducible refine wpList_load_want (op := ⟨some 9, .load 51 (.tmp 3), _, _, _, _⟩) ?wg1 51 (.tmp 3) ?wo1 ⟨w.heap.size, 0, none⟩ ?wx1 (.agg pc) L1.out ?_); (case wg1 => rfl); (case wo1 => rfl); (case wx1 => rfl)))
  clear L1
  have hzV1 : Hid (((w.alloc (.cells pc 51)).alloc (.cells zSe 84)).heap.size = w.heap.size + 1 + 1) := by show _ = _; simp only [World.size_alloc]
  generalize ((w.alloc (.cells pc 51)).alloc (.cells zSe 84)) = V1 at *
  refine (CC.out V1 HG.out).mono ?_
  rintro e V2 ⟨rfl, hy⟩
  replace K := lh (K.out.trans (hy.mono K.out.size))
  replace HG := lh (HG.out.below hy)
  replace P := lh (P.out.below hy P.out.lt)
  replace R := lh (R.out.below hy R.out.lt)
  clear hy
  have hal := (Below.refl V2.heap.size V2).alloc (Nat.le_refl _) (.cells zSe 84)
  replace K := lh (K.out.trans (hal.mono K.out.size))
  replace HG := lh (HG.out.below hal)
  replace P := lh (P.out.below hal P.out.lt)
  replace R := lh (R.out.below hal R.out.lt)
  have V := lh (Blk.new V2 84 zSe)
  clear hal
  have L2 : (loadVar 84 ⟨V2.heap.size, 0, none⟩).run Try.prog (V2.alloc (.cells zSe 84)) = .ok (.agg zSe) (V2.alloc (.cells zSe 84)) := run_blk_load (P := Try.prog) 84 (V2.heap.size) _ V.out Try.underlying84 rfl ZI.out
  replace L2 := lh L2
  go_wp2_with (first | ((with_reducible refine wpList_load_want (op := ⟨some 13, .load 84 (.tmp 7), _, _, _, _⟩) ?wg2 84 (.tmp 7) ?wo2 ⟨V2.heap.size, 0, none⟩ ?wx2 (.agg zSe) L2.out ?_); (case wg2 => rfl); (case wo2 => rfl); (case wx2 => rfl)) | ((with_reducible refine wpList_blk_store (op := ⟨none, .store 84 (.tmp 4) (.tmp 13), _, _, _, _⟩) ?sg3 84 (.tmp 4) (.tmp 13) ?so3 (w.heap.size + 1) zSe ?sx3 ?sy3 R.out zz84.out ZI.out ZA.out ?_); (case sg3 => rfl); (case so3 => rfl); (case sx3 => rfl); (case sy3 => rfl)))
  clear L2
  intro V3 hA hF hB
  replace K := lh (K.out.trans (hB _ (by omega)))
  replace HG := lh (HG.out.belowB (hB (w.heap.size) (by omega)) (by omega))
  replace P := lh (show Blk _ _ _ _ from (hF _ (by omega)).trans P.out)
  replace R := lh hA
  clear hA hF hB
  go_wp2
  have hrun := run_blk_load (P := Try.prog) 84 (w.heap.size + 1) _ R.out Try.underlying84 rfl ZI.out
  exact bodyPost_ret (results_cell_tmp 4 84 5 (w.heap.size + 1) _ Try.results36 rfl hrun) rfl ⟨rfl, K.out⟩
set_option maxRecDepth 100000 in
set_option maxHeartbeats 4000000 in
theorem setT_no (B st sz : Nat) (c : Nat → Option Se) (a b : Int) (h1 : ¬ inP st sz a b) (v : Se) (w : World) (h : GdT B st sz c w) :
    Calls Try.prog 30 #[.pointer (some ⟨B + 1, 0, none⟩), .agg (plA a b), .agg v.cs] w fun e w' => e = .returned (.bool false) ∧ Below w.heap.size w w' := by
  have K := lh (Below.refl w.heap.size w)
  have HG := lh h
  have CC := lh (fun W h => cellT_no B st sz c a b h1 W h)
  have hlt := h.lt
  clear h h1
  have PI := lh (plA_i a b)
  generalize plA a b = pc at *
  have hq := eqcT_none
  go_enter Try.func30, Try.ntmps30
  have hal := (Below.refl w.heap.size w).alloc (Nat.le_refl _) (.cells pc 51)
  replace K := lh (K.out.trans (hal.mono K.out.size))
  replace HG := lh (HG.out.below hal)
  have P := lh (Blk.new w 51 pc)
  clear hal
  have XI : Hid ((Try.prog.info? 84).map (·.size) = some v.cs.size) := by rw [v.size]; exact i84
  have hal := (Below.refl (w.alloc (.cells pc 51)).heap.size (w.alloc (.cells pc 51))).alloc (Nat.le_refl _) (.cells v.cs 84)
  replace K := lh (K.out.trans (hal.mono K.out.size))
  replace HG := lh (HG.out.below hal)
  replace P := lh (P.out.below hal P.out.lt)
  have Xq := Blk.new (w.alloc (.cells pc 51)) 84 v.cs
  simp only [World.size_alloc] at Xq
  have X := lh Xq
  clear Xq
  clear hal
  have L4 : (loadVar 51 ⟨w.heap.size, 0, none⟩).run Try.prog ((w.alloc (.cells pc 51)).alloc (.cells v.cs 84)) = .ok (.agg pc) ((w.alloc (.cells pc 51)).alloc (.cells v.cs 84)) := run_blk_load (P := Try.prog) 51 (w.heap.size) _ P.out Try.underlying51 rfl PI.out
  replace L4 := lh L4
  go_wp2_with (((with_reducible refine wpList_load_want (op := ⟨some 9, .load 51 (.tmp 4), _, _, _, _⟩) ?wg4 51 (.tmp 4) ?wo4 ⟨w.heap.size, 0, none⟩ ?wx4 (.agg pc) L4.out ?_); (case wg4 => rfl); (case wo4 => rfl); (case wx4 => rfl)))
  clear L4
  have hzV1 : Hid (((w.alloc (.cells pc 51)).alloc (.cells v.cs 84)).heap.size = w.heap.size + 1 + 1) := by show _ = _; simp only [World.size_alloc]
  generalize ((w.alloc (.cells pc 51)).alloc (.cells v.cs 84)) = V1 at *
  refine (CC.out V1 HG.out).mono ?_
  rintro e V2 ⟨rfl, hy⟩
  replace K := lh (K.out.trans (hy.mono K.out.size))
  replace HG := lh (HG.out.below hy)
  replace P := lh (P.out.below hy P.out.lt)
  replace X := lh (X.out.below hy X.out.lt)
  clear hy
  go_wp2
  go_ret
  exact ⟨rfl, K.out⟩
set_option maxRecDepth 100000 in
set_option maxHeartbeats 4000000 in
theorem freeT_no (B st sz : Nat) (c : Nat → Option Se) (a b : Int) (h1 : ¬ inP st sz a b) (w : World) (h : GdT B st sz c w) :
    Calls Try.prog 31 #[.pointer (some ⟨B + 1, 0, none⟩), .agg (plA a b)] w fun e w' => e = .returned (.bool false) ∧ Below w.heap.size w w' := by
  have K := lh (Below.refl w.heap.size w)
  have HG := lh h
  have CC := lh (fun W h => cellT_no B st sz c a b h1 W h)
  have hlt := h.lt
  clear h h1
  have PI := lh (plA_i a b)
  generalize plA a b = pc at *
  have hq := eqcT_none
  go_enter Try.func31, Try.ntmps31
  have hal := (Below.refl w.heap.size w).alloc (Nat.le_refl _) (.cells pc 51)
  replace K := lh (K.out.trans (hal.mono K.out.size))
  replace HG := lh (HG.out.below hal)
  have P := lh (Blk.new w 51 pc)
  clear hal
  have L5 : (loadVar 51 ⟨w.heap.size, 0, none⟩).run Try.prog (w.alloc (.cells pc 51)) = .ok (.agg pc) (w.alloc (.cells pc 51)) := run_blk_load (P := Try.prog) 51 (w.heap.size) _ P.out Try.underlying51 rfl PI.out
  replace L5 := lh L5
  go_wp2_with (((with_reducible refine wpList_load_want (op := ⟨some 7, .load 51 (.tmp 3), _, _, _, _⟩) ?wg5 51 (.tmp 3) ?wo5 ⟨w.heap.size, 0, none⟩ ?wx5 (.agg pc) L5.out ?_); (case wg5 => rfl); (case wo5 => rfl); (case wx5 => rfl)))
  clear L5
  have hzV1 : Hid ((w.alloc (.cells pc 51)).heap.size = w.heap.size + 1) := by show _ = _; simp only [World.size_alloc]
  generalize (w.alloc (.cells pc 51)) = V1 at *
  refine (CC.out V1 HG.out).mono ?_
  rintro e V2 ⟨rfl, hy⟩
  replace K := lh (K.out.trans (hy.mono K.out.size))
  replace HG := lh (HG.out.below hy)
  replace P := lh (P.out.below hy P.out.lt)
  clear hy
  go_wp2
  go_ret
  exact ⟨rfl, K.out⟩
end Go.Proofs.Ythldpnifodbheaa
namespace Go.Proofs.Ythldpnifodbheaa
open Go.RowKit Go.Lib
theorem grown_of_below {A B : World} (h : Below A.heap.size A B) : A.grownBy B none := ⟨h.os, h.tape, h.output, h.size, fun k hk _ => h.block k hk⟩
theorem wpList_built3 {P : Program} {ops : Array Oper} {rest : List Oper} {op : Oper} {a : Act} {w : World} {Q : Exit → Act → World → Prop} (hw : Region.wanted op (yielded ops a.tmps) = true) (t : TypeId) (parts : Array (Nat × Operand)) (ho : op.op = .build t parts)
    (vals : Array (Nat × Value)) (hv : (parts.map fun (i, x) => (i, a.eval x)) = vals) (cells : Array Value) (hf : P.built t vals.toList = some cells) (h : wpList P ops Q rest (a.put op.dst (.agg cells)) w) : wpList P ops Q (op :: rest) a w :=
  BigFrame.wpList_want hw fun K hK => by
    unfold Oper.wp
    simp only [exec_build t parts ho vals hv cells hf]
    exact hK _ _ h
theorem gb_cell (W : World) (b i : Nat) (v : Value) : W.grownBy (W.setCell ⟨b, i, none⟩ v) (some b) :=
  ⟨rfl, rfl, rfl, by show _ ≤ (W.heap.modify _ _).size; rw [Array.size_modify]; exact Nat.le_refl _, fun k _ hk => Below.heap_setCell _ _ _ k (fun e => hk (by rw [e]))⟩
theorem list41 (l : List Value) (h : l.length = 41) : ∃ a0 a1 a2 a3 a4 a5 a6 a7 a8 a9 a10 a11 a12 a13 a14 a15 a16 a17 a18 a19 a20 a21 a22 a23 a24 a25 a26 a27 a28 a29 a30 a31 a32 a33 a34 a35 a36 a37 a38 a39 a40, l = a0 :: a1 :: a2 :: a3 :: a4 :: a5 :: a6 :: a7 :: a8 :: a9 :: a10 :: a11 :: a12 :: a13 :: a14 :: a15 :: a16 :: a17 :: a18 :: a19 :: a20 :: a21 :: a22 :: a23 :: a24 :: a25 :: a26 :: a27 :: a28 :: a29 :: a30 :: a31 :: a32 :: a33 :: a34 :: a35 :: a36 :: a37 :: a38 :: a39 :: a40 :: [] := by
  match l, h with
  | a0 :: a1 :: a2 :: a3 :: a4 :: a5 :: a6 :: a7 :: a8 :: a9 :: a10 :: a11 :: a12 :: a13 :: a14 :: a15 :: a16 :: a17 :: a18 :: a19 :: a20 :: a21 :: a22 :: a23 :: a24 :: a25 :: a26 :: a27 :: a28 :: a29 :: a30 :: a31 :: a32 :: a33 :: a34 :: a35 :: a36 :: a37 :: a38 :: a39 :: a40 :: [], _ => exact ⟨a0, a1, a2, a3, a4, a5, a6, a7, a8, a9, a10, a11, a12, a13, a14, a15, a16, a17, a18, a19, a20, a21, a22, a23, a24, a25, a26, a27, a28, a29, a30, a31, a32, a33, a34, a35, a36, a37, a38, a39, a40, rfl⟩
theorem cells41 (X : Array Value) (h : X.size = 41) : ∃ a0 a1 a2 a3 a4 a5 a6 a7 a8 a9 a10 a11 a12 a13 a14 a15 a16 a17 a18 a19 a20 a21 a22 a23 a24 a25 a26 a27 a28 a29 a30 a31 a32 a33 a34 a35 a36 a37 a38 a39 a40, X = #[a0, a1, a2, a3, a4, a5, a6, a7, a8, a9, a10, a11, a12, a13, a14, a15, a16, a17, a18, a19, a20, a21, a22, a23, a24, a25, a26, a27, a28, a29, a30, a31, a32, a33, a34, a35, a36, a37, a38, a39, a40] := by
  obtain ⟨l⟩ := X
  obtain ⟨a0, a1, a2, a3, a4, a5, a6, a7, a8, a9, a10, a11, a12, a13, a14, a15, a16, a17, a18, a19, a20, a21, a22, a23, a24, a25, a26, a27, a28, a29, a30, a31, a32, a33, a34, a35, a36, a37, a38, a39, a40, rfl⟩ := list41 l h
  exact ⟨a0, a1, a2, a3, a4, a5, a6, a7, a8, a9, a10, a11, a12, a13, a14, a15, a16, a17, a18, a19, a20, a21, a22, a23, a24, a25, a26, a27, a28, a29, a30, a31, a32, a33, a34, a35, a36, a37, a38, a39, a40, rfl⟩
theorem built_seat (X : Array Value) (hX : X.size = 41) (u : Bool) : Try.prog.built 130 [(0, .bool u), (1, .agg X)] = some (Value.bool u :: X.toList).toArray := by
  obtain ⟨a0, a1, a2, a3, a4, a5, a6, a7, a8, a9, a10, a11, a12, a13, a14, a15, a16, a17, a18, a19, a20, a21, a22, a23, a24, a25, a26, a27, a28, a29, a30, a31, a32, a33, a34, a35, a36, a37, a38, a39, a40, rfl⟩ := cells41 X hX
  kernel_rfl
theorem builtT (v : Se) : Try.prog.built 130 [(0, .bool true), (1, .agg v.cs)] = some (encT (some v)).toArray := built_seat v.cs v.size true
theorem builtT0 : Try.prog.built 130 [] = some (encT none).toArray := by kernel_rfl
def SameBut (g : Nat) (A B : World) : Prop := ∀ k, k ≠ g → B.heap[k]? = A.heap[k]?
theorem gb_of {A B : World} (h : Below A.heap.size A B) (g : Nat) : A.grownBy B (some g) := (grown_of_below h).but _
set_option maxRecDepth 100000 in
set_option maxHeartbeats 4000000 in
theorem setT_in (B st sz : Nat) (c : Nat → Option Se) (s i : Nat) (hs : s < st) (hi : i < sz) (v : Se) (w : World) (h : GdT B st sz c w) :
    Calls Try.prog 30 #[.pointer (some ⟨B + 1, 0, none⟩), .agg (plA s i), .agg v.cs] w fun e w' => e = .returned (.bool true) ∧ GdT B st sz (putC c (s * sz + i) (some v)) w' ∧ Apart B (2 + st) w w' := by
  have K := lh (Below.refl w.heap.size w)
  have HG := lh h
  have CC := lh (fun W h => cellT_yes B st sz c s i hs hi W h)
  have qm : i * 42 < sz * 42 := by omega
  have hst := h.s2
  have hsz := h.z2
  have hlt := h.lt
  clear h
  have PI := lh (plA_i (s : Int) (i : Int))
  generalize plA (s : Int) (i : Int) = pc at *
  have hq := eqcT_some ⟨B + 2 + s, i * 42, none⟩
  go_enter Try.func30, Try.ntmps30
  have hal := (Below.refl w.heap.size w).alloc (Nat.le_refl _) (.cells pc 51)
  replace K := lh (K.out.trans (hal.mono K.out.size))
  replace HG := lh (HG.out.below hal)
  have P := lh (Blk.new w 51 pc)
  clear hal
  have XI : Hid ((Try.prog.info? 84).map (·.size) = some v.cs.size) := by rw [v.size]; exact i84
  have hal := (Below.refl (w.alloc (.cells pc 51)).heap.size (w.alloc (.cells pc 51))).alloc (Nat.le_refl _) (.cells v.cs 84)
  replace K := lh (K.out.trans (hal.mono K.out.size))
  replace HG := lh (HG.out.below hal)
  replace P := lh (P.out.below hal P.out.lt)
  have Xq := Blk.new (w.alloc (.cells pc 51)) 84 v.cs
  simp only [World.size_alloc] at Xq
  have X := lh Xq
  clear Xq
  clear hal
  have L6 : (loadVar 51 ⟨w.heap.size, 0, none⟩).run Try.prog ((w.alloc (.cells pc 51)).alloc (.cells v.cs 84)) = .ok (.agg pc) ((w.alloc (.cells pc 51)).alloc (.cells v.cs 84)) := run_blk_load (P := Try.prog) 51 (w.heap.size) _ P.out Try.underlying51 rfl PI.out
  replace L6 := lh L6
  go_wp2_with (((with_reducible refine wpList_load_want (op := ⟨some 9, .load 51 (.tmp 4), _, _, _, _⟩) ?wg6 51 (.tmp 4) ?wo6 ⟨w.heap.size, 0, none⟩ ?wx6 (.agg pc) L6.out ?_); (case wg6 => rfl); (case wo6 => rfl); (case wx6 => rfl)))
  clear L6
  have hzV1 : Hid (((w.alloc (.cells pc 51)).alloc (.cells v.cs 84)).heap.size = w.heap.size + 1 + 1) := by show _ = _; simp only [World.size_alloc]
  generalize ((w.alloc (.cells pc 51)).alloc (.cells v.cs 84)) = V1 at *
  refine (CC.out V1 HG.out).mono ?_
  rintro e V2 ⟨rfl, hy⟩
  replace K := lh (K.out.trans (hy.mono K.out.size))
  replace HG := lh (HG.out.below hy)
  replace P := lh (P.out.below hy P.out.lt)
  replace X := lh (X.out.below hy X.out.lt)
  clear hy
  have G := lh HG.out.G
  have C := lh (HG.out.C s hs)
  obtain ⟨k, hk⟩ : ∃ k, k = s * sz + i := ⟨_, rfl⟩
  have HNK := lh (show k < st * sz from hk ▸ num_lt hs hi)
  have HSZ := lh (sz_le hst hsz)
  have HLN := lh (itF_len c 0 (st * sz))
  have c0 : V2.cell? ⟨B + 2 + s, i * 42, none⟩ = (encT (c (s * sz + i)))[0]? := HG.out.cellAt 42 encT_len s i 0 hs hi (by omega)
  have d1 := HG.out.cellAt 42 encT_len s i 1 hs hi (by omega)
  have d2 := HG.out.cellAt 42 encT_len s i 2 hs hi (by omega)
  have d3 := HG.out.cellAt 42 encT_len s i 3 hs hi (by omega)
  have d4 := HG.out.cellAt 42 encT_len s i 4 hs hi (by omega)
  have d5 := HG.out.cellAt 42 encT_len s i 5 hs hi (by omega)
  have d6 := HG.out.cellAt 42 encT_len s i 6 hs hi (by omega)
  have d7 := HG.out.cellAt 42 encT_len s i 7 hs hi (by omega)
  have d8 := HG.out.cellAt 42 encT_len s i 8 hs hi (by omega)
  have d9 := HG.out.cellAt 42 encT_len s i 9 hs hi (by omega)
  have d10 := HG.out.cellAt 42 encT_len s i 10 hs hi (by omega)
  have d11 := HG.out.cellAt 42 encT_len s i 11 hs hi (by omega)
  have d12 := HG.out.cellAt 42 encT_len s i 12 hs hi (by omega)
  have d13 := HG.out.cellAt 42 encT_len s i 13 hs hi (by omega)
  have d14 := HG.out.cellAt 42 encT_len s i 14 hs hi (by omega)
  have d15 := HG.out.cellAt 42 encT_len s i 15 hs hi (by omega)
  have d16 := HG.out.cellAt 42 encT_len s i 16 hs hi (by omega)
  have d17 := HG.out.cellAt 42 encT_len s i 17 hs hi (by omega)
  have d18 := HG.out.cellAt 42 encT_len s i 18 hs hi (by omega)
  have d19 := HG.out.cellAt 42 encT_len s i 19 hs hi (by omega)
  have d20 := HG.out.cellAt 42 encT_len s i 20 hs hi (by omega)
  have d21 := HG.out.cellAt 42 encT_len s i 21 hs hi (by omega)
  have d22 := HG.out.cellAt 42 encT_len s i 22 hs hi (by omega)
  have d23 := HG.out.cellAt 42 encT_len s i 23 hs hi (by omega)
  have d24 := HG.out.cellAt 42 encT_len s i 24 hs hi (by omega)
  have d25 := HG.out.cellAt 42 encT_len s i 25 hs hi (by omega)
  have d26 := HG.out.cellAt 42 encT_len s i 26 hs hi (by omega)
  have d27 := HG.out.cellAt 42 encT_len s i 27 hs hi (by omega)
  have d28 := HG.out.cellAt 42 encT_len s i 28 hs hi (by omega)
  have d29 := HG.out.cellAt 42 encT_len s i 29 hs hi (by omega)
  have d30 := HG.out.cellAt 42 encT_len s i 30 hs hi (by omega)
  have d31 := HG.out.cellAt 42 encT_len s i 31 hs hi (by omega)
  have d32 := HG.out.cellAt 42 encT_len s i 32 hs hi (by omega)
  have d33 := HG.out.cellAt 42 encT_len s i 33 hs hi (by omega)
  have d34 := HG.out.cellAt 42 encT_len s i 34 hs hi (by omega)
  have d35 := HG.out.cellAt 42 encT_len s i 35 hs hi (by omega)
  have d36 := HG.out.cellAt 42 encT_len s i 36 hs hi (by omega)
  have d37 := HG.out.cellAt 42 encT_len s i 37 hs hi (by omega)
  have d38 := HG.out.cellAt 42 encT_len s i 38 hs hi (by omega)
  have d39 := HG.out.cellAt 42 encT_len s i 39 hs hi (by omega)
  have d40 := HG.out.cellAt 42 encT_len s i 40 hs hi (by omega)
  have d41 := HG.out.cellAt 42 encT_len s i 41 hs hi (by omega)
  rw [← hk] at c0 d1 d2 d3 d4 d5 d6 d7 d8 d9 d10 d11 d12 d13 d14 d15 d16 d17 d18 d19 d20 d21 d22 d23 d24 d25 d26 d27 d28 d29 d30 d31 d32 d33 d34 d35 d36 d37 d38 d39 d40 d41
  cases hc : c k with
  | none =>
    replace c0 : V2.cell? ⟨B + 2 + s, i * 42, none⟩ = some (.bool false) := c0.trans (by rw [hc]; rfl)
    have HNN := lh (len_set c (st * sz) k HNK.out v hc)
    obtain ⟨nn, hnn⟩ : ∃ nn, nn = (itF (putC c k (some v)) 0 (st * sz)).length := ⟨_, rfl⟩
    have HN2 := lh hnn
    rw [← hnn] at HNN
    obtain ⟨g0, g1⟩ := grC_get B st (itF c 0 (st * sz)).length
    have G1 := lh g1
    have GS1 := lh (grC_set B st (itF c 0 (st * sz)).length nn)
    have RP := lh (rowC_put encT 42 encT_len (by decide) c (s * sz) sz i hi (some v))
    have RL := lh (show i * 42 + (encT (some v)).toArray.size ≤ (rowC encT c (s * sz) sz).toArray.size by rw [List.size_toArray, List.size_toArray, rowC_len encT 42 encT_len, encT_len]; omega)
    have hn0 := HLN.out
    have hn1 := HSZ.out
    have hn2 := HNN.out
    have HKK := lh hk
    clear g0 g1 hnn hk hc
    generalize (itF c 0 (st * sz)).length = n at *
    have w1 : IntKind.i64.wrap ((n : Int) + 1) = (nn : Int) := by rw [IntKind.wrap_i64]; omega
    clear hn0 hn1 hn2
    have k1 := (G.out.cell 1).trans G1.out
    have k2 := G.out.frozen 1
    have C2 := lh (C.out.far (p := ⟨B + 1, 1, none⟩) (by show B + 2 + s ≠ B + 1; omega) (.int .i64 (nn : Int)))
    have G2 := lh (G.out.set_ 1 (.int .i64 (nn : Int)))
    rw [GS1.out] at G2
    have HF1 : Hid (SameBut (B + 1) V2 (V2.setCell ⟨B + 1, 1, none⟩ (.int .i64 (nn : Int)))) := fun k hk => Below.heap_setCell _ _ _ k hk
    have HB1 : Hid (V2.grownBy (V2.setCell ⟨B + 1, 1, none⟩ (.int .i64 (nn : Int))) (some (B + 1))) := gb_cell _ _ _ _
    clear G C
    have CA := lh (encT_all (some v))
    have HBU := lh (builtT v)
    obtain ⟨xc, hxc⟩ : ∃ x, x = (encT (some v)).toArray := ⟨_, rfl⟩
    rw [← hxc] at HBU RL CA
    have HXC := lh hxc
    have XZ : Hid ((Try.prog.info? 130).map (·.size) = some xc.size) := by
      show _ = _
      rw [hxc, List.size_toArray, encT_len]; exact i130
    clear hxc
    have LX := lh (run_blk_load (P := Try.prog) (w := (V2.setCell ⟨B + 1, 1, none⟩ (.int .i64 (nn : Int)))) 84 (w.heap.size + 1) _ (X.out.far (p := ⟨B + 1, 1, none⟩) (by show w.heap.size + 1 ≠ B + 1; omega) _) Try.underlying84 rfl XI.out)
    go_wp2_with (first | ((with_reducible refine wpList_load_want (op := ⟨some 26, .load 84 (.tmp 5), _, _, _, _⟩) ?lg1 84 (.tmp 5) ?lo1 ⟨w.heap.size + 1, 0, none⟩ ?lx1 (.agg v.cs) LX.out ?_); (case lg1 => rfl); (case lo1 => rfl); (case lx1 => rfl)) | ((with_reducible refine wpList_built3 (op := ⟨some 27, .build 130 #[(0, Operand.const (Value.bool true)), (1, Operand.tmp 26)], _, _, _, _⟩) ?wg1 130 #[(0, Operand.const (Value.bool true)), (1, Operand.tmp 26)] ?wo1 #[(0, .bool true), (1, .agg v.cs)] ?wv1 xc ?wf1 ?_); (case wg1 => rfl); (case wo1 => rfl); (case wv1 => kernel_rfl); (case wf1 => exact HBU.out)) | ((with_reducible refine wpList_part_store (op := ⟨none, .store 130 (.tmp 28) (.tmp 27), _, _, _, _⟩) ?pg1 130 (.tmp 28) (.tmp 27) ?po1 (i * 42) xc ?px1 ?py1 C2.out RL.out XZ.out CA.out ?_); (case pg1 => rfl); (case po1 => rfl); (case px1 => rfl); (case py1 => rfl)))
    intro Vz hA hF hB
    rw [HXC.out, List.toList_toArray, RP.out, ← HKK.out] at hA
    have HA := lh hA
    have HF2 : Hid (∀ j, j < V2.heap.size → j ≠ B + 1 → j ≠ B + 2 + s → Vz.heap[j]? = V2.heap[j]?) := fun j h0 h1 h2 => (hF j h2).trans (HF1.out j h1)
    have HB2 := lh (hB 0 (Nat.zero_le _))
    have hbs := (hB 0 (Nat.zero_le _))
    have hG2 : Blk Vz (B + 1) 133 (grC B st nn) := (hF _ (by omega)).trans G2.out
    have HP := lh (HG.out.put s i hi (some v) nn (by rw [← HKK.out]; exact HN2.out.symm) hG2 (by rw [← HKK.out]; exact HA.out) HF2.out)
    have HAP : Hid (Apart B (2 + st) w Vz) := (Apart.of_below K.out).trans ((Apart.of_grown HB1.out (by omega) (by omega)).trans ⟨hbs.os, hbs.tape, hbs.output, hbs.size, fun j h1 h2 => hF j (by omega)⟩)
    clear hA hF hB hG2 HA HF2 HB2 hbs C2 G2 HF1 HB1
    go_wp2
    go_ret
    exact ⟨rfl, HP.out, HAP.out⟩
  | some u =>
    replace c0 : V2.cell? ⟨B + 2 + s, i * 42, none⟩ = some (.bool true) := c0.trans (by rw [hc]; rfl)
    have HNN := lh (len_again c (st * sz) k HNK.out u v hc)
    obtain ⟨nn, hnn⟩ : ∃ nn, nn = (itF (putC c k (some v)) 0 (st * sz)).length := ⟨_, rfl⟩
    have HN2 := lh hnn
    rw [← hnn] at HNN
    obtain ⟨g0, g1⟩ := grC_get B st (itF c 0 (st * sz)).length
    have G1 := lh g1
    have GS1 := lh (grC_set B st (itF c 0 (st * sz)).length nn)
    have RP := lh (rowC_put encT 42 encT_len (by decide) c (s * sz) sz i hi (some v))
    have RL := lh (show i * 42 + (encT (some v)).toArray.size ≤ (rowC encT c (s * sz) sz).toArray.size by rw [List.size_toArray, List.size_toArray, rowC_len encT 42 encT_len, encT_len]; omega)
    have hn0 := HLN.out
    have hn1 := HSZ.out
    have hn2 := HNN.out
    have HKK := lh hk
    clear g0 g1 hnn hk hc
    generalize (itF c 0 (st * sz)).length = n at *
    clear hn0 hn1 hn2
    have C2 := C
    have G2 : Hid (Blk V2 (B + 1) 133 (grC B st nn)) := by show Blk _ _ _ _; rw [HNN.out]; exact G.out
    have HF1 : Hid (SameBut (B + 1) V2 V2) := fun k hk => rfl
    have HB1 : Hid (V2.grownBy V2 (some (B + 1))) := gb_of (Below.refl _ _) _
    clear G C
    have CA := lh (encT_all (some v))
    have HBU := lh (builtT v)
    obtain ⟨xc, hxc⟩ : ∃ x, x = (encT (some v)).toArray := ⟨_, rfl⟩
    rw [← hxc] at HBU RL CA
    have HXC := lh hxc
    have XZ : Hid ((Try.prog.info? 130).map (·.size) = some xc.size) := by
      show _ = _
      rw [hxc, List.size_toArray, encT_len]; exact i130
    clear hxc
    have LX := lh (run_blk_load (P := Try.prog) (w := V2) 84 (w.heap.size + 1) _ (X.out) Try.underlying84 rfl XI.out)
    go_wp2_with (first | ((with_reducible refine wpList_load_want (op := ⟨some 26, .load 84 (.tmp 5), _, _, _, _⟩) ?lg1 84 (.tmp 5) ?lo1 ⟨w.heap.size + 1, 0, none⟩ ?lx1 (.agg v.cs) LX.out ?_); (case lg1 => rfl); (case lo1 => rfl); (case lx1 => rfl)) | ((with_reducible refine wpList_built3 (op := ⟨some 27, .build 130 #[(0, Operand.const (Value.bool true)), (1, Operand.tmp 26)], _, _, _, _⟩) ?wg1 130 #[(0, Operand.const (Value.bool true)), (1, Operand.tmp 26)] ?wo1 #[(0, .bool true), (1, .agg v.cs)] ?wv1 xc ?wf1 ?_); (case wg1 => rfl); (case wo1 => rfl); (case wv1 => kernel_rfl); (case wf1 => exact HBU.out)) | ((with_reducible refine wpList_part_store (op := ⟨none, .store 130 (.tmp 28) (.tmp 27), _, _, _, _⟩) ?pg1 130 (.tmp 28) (.tmp 27) ?po1 (i * 42) xc ?px1 ?py1 C2.out RL.out XZ.out CA.out ?_); (case pg1 => rfl); (case po1 => rfl); (case px1 => rfl); (case py1 => rfl)))
    intro Vz hA hF hB
    rw [HXC.out, List.toList_toArray, RP.out, ← HKK.out] at hA
    have HA := lh hA
    have HF2 : Hid (∀ j, j < V2.heap.size → j ≠ B + 1 → j ≠ B + 2 + s → Vz.heap[j]? = V2.heap[j]?) := fun j h0 h1 h2 => (hF j h2).trans (HF1.out j h1)
    have HB2 := lh (hB 0 (Nat.zero_le _))
    have hbs := (hB 0 (Nat.zero_le _))
    have hG2 : Blk Vz (B + 1) 133 (grC B st nn) := (hF _ (by omega)).trans G2.out
    have HP := lh (HG.out.put s i hi (some v) nn (by rw [← HKK.out]; exact HN2.out.symm) hG2 (by rw [← HKK.out]; exact HA.out) HF2.out)
    have HAP : Hid (Apart B (2 + st) w Vz) := (Apart.of_below K.out).trans ((Apart.of_grown HB1.out (by omega) (by omega)).trans ⟨hbs.os, hbs.tape, hbs.output, hbs.size, fun j h1 h2 => hF j (by omega)⟩)
    clear hA hF hB hG2 HA HF2 HB2 hbs C2 G2 HF1 HB1
    go_wp2
    go_ret
    exact ⟨rfl, HP.out, HAP.out⟩
end Go.Proofs.Ythldpnifodbheaa
namespace Go.Proofs.Ythldpnifodbheaa
open Go.RowKit Go.Lib
set_option maxRecDepth 100000 in
set_option maxHeartbeats 4000000 in
theorem freeT_in (B st sz : Nat) (c : Nat → Option Se) (s i : Nat) (hs : s < st) (hi : i < sz) (u : Se) (hc : c (s * sz + i) = some u) (w : World) (h : GdT B st sz c w) :
    Calls Try.prog 31 #[.pointer (some ⟨B + 1, 0, none⟩), .agg (plA s i)] w fun e w' => e = .returned (.bool true) ∧ GdT B st sz (putC c (s * sz + i) none) w' ∧ Apart B (2 + st) w w' := by
  have K := lh (Below.refl w.heap.size w)
  have HG := lh h
  have CC := lh (fun W h => cellT_yes B st sz c s i hs hi W h)
  have qm : i * 42 < sz * 42 := by omega
  have hst := h.s2
  have hsz := h.z2
  have hlt := h.lt
  clear h
  have PI := lh (plA_i (s : Int) (i : Int))
  generalize plA (s : Int) (i : Int) = pc at *
  have hq := eqcT_some ⟨B + 2 + s, i * 42, none⟩
  have HCC := lh hc
  clear hc
  go_enter Try.func31, Try.ntmps31
  have hal := (Below.refl w.heap.size w).alloc (Nat.le_refl _) (.cells pc 51)
  replace K := lh (K.out.trans (hal.mono K.out.size))
  replace HG := lh (HG.out.below hal)
  have P := lh (Blk.new w 51 pc)
  clear hal
  have L7 : (loadVar 51 ⟨w.heap.size, 0, none⟩).run Try.prog (w.alloc (.cells pc 51)) = .ok (.agg pc) (w.alloc (.cells pc 51)) := run_blk_load (P := Try.prog) 51 (w.heap.size) _ P.out Try.underlying51 rfl PI.out
  replace L7 := lh L7
  go_wp2_with (((with_reducible refine wpList_load_want (op := ⟨some 7, .load 51 (.tmp 3), _, _, _, _⟩) ?wg7 51 (.tmp 3) ?wo7 ⟨w.heap.size, 0, none⟩ ?wx7 (.agg pc) L7.out ?_); (case wg7 => rfl); (case wo7 => rfl); (case wx7 => rfl)))
  clear L7
  have hzV1 : Hid ((w.alloc (.cells pc 51)).heap.size = w.heap.size + 1) := by show _ = _; simp only [World.size_alloc]
  generalize (w.alloc (.cells pc 51)) = V1 at *
  refine (CC.out V1 HG.out).mono ?_
  rintro e V2 ⟨rfl, hy⟩
  replace K := lh (K.out.trans (hy.mono K.out.size))
  replace HG := lh (HG.out.below hy)
  replace P := lh (P.out.below hy P.out.lt)
  clear hy
  have G := lh HG.out.G
  have C := lh (HG.out.C s hs)
  obtain ⟨k, hk⟩ : ∃ k, k = s * sz + i := ⟨_, rfl⟩
  have HNK := lh (show k < st * sz from hk ▸ num_lt hs hi)
  have HSZ := lh (sz_le hst hsz)
  have HLN := lh (itF_len c 0 (st * sz))
  have c0 : V2.cell? ⟨B + 2 + s, i * 42, none⟩ = (encT (c (s * sz + i)))[0]? := HG.out.cellAt 42 encT_len s i 0 hs hi (by omega)
  have d1 := HG.out.cellAt 42 encT_len s i 1 hs hi (by omega)
  have d2 := HG.out.cellAt 42 encT_len s i 2 hs hi (by omega)
  have d3 := HG.out.cellAt 42 encT_len s i 3 hs hi (by omega)
  have d4 := HG.out.cellAt 42 encT_len s i 4 hs hi (by omega)
  have d5 := HG.out.cellAt 42 encT_len s i 5 hs hi (by omega)
  have d6 := HG.out.cellAt 42 encT_len s i 6 hs hi (by omega)
  have d7 := HG.out.cellAt 42 encT_len s i 7 hs hi (by omega)
  have d8 := HG.out.cellAt 42 encT_len s i 8 hs hi (by omega)
  have d9 := HG.out.cellAt 42 encT_len s i 9 hs hi (by omega)
  have d10 := HG.out.cellAt 42 encT_len s i 10 hs hi (by omega)
  have d11 := HG.out.cellAt 42 encT_len s i 11 hs hi (by omega)
  have d12 := HG.out.cellAt 42 encT_len s i 12 hs hi (by omega)
  have d13 := HG.out.cellAt 42 encT_len s i 13 hs hi (by omega)
  have d14 := HG.out.cellAt 42 encT_len s i 14 hs hi (by omega)
  have d15 := HG.out.cellAt 42 encT_len s i 15 hs hi (by omega)
  have d16 := HG.out.cellAt 42 encT_len s i 16 hs hi (by omega)
  have d17 := HG.out.cellAt 42 encT_len s i 17 hs hi (by omega)
  have d18 := HG.out.cellAt 42 encT_len s i 18 hs hi (by omega)
  have d19 := HG.out.cellAt 42 encT_len s i 19 hs hi (by omega)
  have d20 := HG.out.cellAt 42 encT_len s i 20 hs hi (by omega)
  have d21 := HG.out.cellAt 42 encT_len s i 21 hs hi (by omega)
  have d22 := HG.out.cellAt 42 encT_len s i 22 hs hi (by omega)
  have d23 := HG.out.cellAt 42 encT_len s i 23 hs hi (by omega)
  have d24 := HG.out.cellAt 42 encT_len s i 24 hs hi (by omega)
  have d25 := HG.out.cellAt 42 encT_len s i 25 hs hi (by omega)
  have d26 := HG.out.cellAt 42 encT_len s i 26 hs hi (by omega)
  have d27 := HG.out.cellAt 42 encT_len s i 27 hs hi (by omega)
  have d28 := HG.out.cellAt 42 encT_len s i 28 hs hi (by omega)
  have d29 := HG.out.cellAt 42 encT_len s i 29 hs hi (by omega)
  have d30 := HG.out.cellAt 42 encT_len s i 30 hs hi (by omega)
  have d31 := HG.out.cellAt 42 encT_len s i 31 hs hi (by omega)
  have d32 := HG.out.cellAt 42 encT_len s i 32 hs hi (by omega)
  have d33 := HG.out.cellAt 42 encT_len s i 33 hs hi (by omega)
  have d34 := HG.out.cellAt 42 encT_len s i 34 hs hi (by omega)
  have d35 := HG.out.cellAt 42 encT_len s i 35 hs hi (by omega)
  have d36 := HG.out.cellAt 42 encT_len s i 36 hs hi (by omega)
  have d37 := HG.out.cellAt 42 encT_len s i 37 hs hi (by omega)
  have d38 := HG.out.cellAt 42 encT_len s i 38 hs hi (by omega)
  have d39 := HG.out.cellAt 42 encT_len s i 39 hs hi (by omega)
  have d40 := HG.out.cellAt 42 encT_len s i 40 hs hi (by omega)
  have d41 := HG.out.cellAt 42 encT_len s i 41 hs hi (by omega)
  rw [← hk] at c0 d1 d2 d3 d4 d5 d6 d7 d8 d9 d10 d11 d12 d13 d14 d15 d16 d17 d18 d19 d20 d21 d22 d23 d24 d25 d26 d27 d28 d29 d30 d31 d32 d33 d34 d35 d36 d37 d38 d39 d40 d41
  have hc : c k = some u := by rw [hk]; exact HCC.out
  replace c0 : V2.cell? ⟨B + 2 + s, i * 42, none⟩ = some (.bool true) := c0.trans (by rw [hc]; rfl)
  have HNN := lh (len_free c (st * sz) k HNK.out u hc)
  obtain ⟨nn, hnn⟩ : ∃ nn, nn = (itF (putC c k none) 0 (st * sz)).length := ⟨_, rfl⟩
  have HN2 := lh hnn
  rw [← hnn] at HNN
  obtain ⟨g0, g1⟩ := grC_get B st (itF c 0 (st * sz)).length
  have G1 := lh g1
  have GS1 := lh (grC_set B st (itF c 0 (st * sz)).length nn)
  have RP := lh (rowC_put encT 42 encT_len (by decide) c (s * sz) sz i hi none)
  have RL := lh (show i * 42 + (encT none).toArray.size ≤ (rowC encT c (s * sz) sz).toArray.size by rw [List.size_toArray, List.size_toArray, rowC_len encT 42 encT_len, encT_len]; omega)
  have hn0 := HLN.out
  have hn1 := HSZ.out
  have hn2 := HNN.out
  have HKK := lh hk
  clear g0 g1 hnn hk hc
  generalize (itF c 0 (st * sz)).length = n at *
  have w1 : IntKind.i64.wrap ((n : Int) - 1) = (nn : Int) := by rw [IntKind.wrap_i64]; omega
  clear hn0 hn1 hn2
  have k1 := (G.out.cell 1).trans G1.out
  have k2 := G.out.frozen 1
  have C2 := lh (C.out.far (p := ⟨B + 1, 1, none⟩) (by show B + 2 + s ≠ B + 1; omega) (.int .i64 (nn : Int)))
  have G2 := lh (G.out.set_ 1 (.int .i64 (nn : Int)))
  rw [GS1.out] at G2
  have HF1 : Hid (SameBut (B + 1) V2 (V2.setCell ⟨B + 1, 1, none⟩ (.int .i64 (nn : Int)))) := fun k hk => Below.heap_setCell _ _ _ k hk
  have HB1 : Hid (V2.grownBy (V2.setCell ⟨B + 1, 1, none⟩ (.int .i64 (nn : Int))) (some (B + 1))) := gb_cell _ _ _ _
  clear G C
  have CA := lh (encT_all none)
  have HBU := lh (builtT0)
  obtain ⟨xc, hxc⟩ : ∃ x, x = (encT none).toArray := ⟨_, rfl⟩
  rw [← hxc] at HBU RL CA
  have HXC := lh hxc
  have XZ : Hid ((Try.prog.info? 130).map (·.size) = some xc.size) := by
    show _ = _
    rw [hxc, List.size_toArray, encT_len]; exact i130
  clear hxc
  go_wp2_with (first | ((with_reducible refine wpList_built3 (op := ⟨some 26, .build 130 #[], _, _, _, _⟩) ?wg1 130 #[] ?wo1 #[] ?wv1 xc ?wf1 ?_); (case wg1 => rfl); (case wo1 => rfl); (case wv1 => kernel_rfl); (case wf1 => exact HBU.out)) | ((with_reducible refine wpList_part_store (op := ⟨none, .store 130 (.tmp 27) (.tmp 26), _, _, _, _⟩) ?pg1 130 (.tmp 27) (.tmp 26) ?po1 (i * 42) xc ?px1 ?py1 C2.out RL.out XZ.out CA.out ?_); (case pg1 => rfl); (case po1 => rfl); (case px1 => rfl); (case py1 => rfl)))
  intro Vz hA hF hB
  rw [HXC.out, List.toList_toArray, RP.out, ← HKK.out] at hA
  have HA := lh hA
  have HF2 : Hid (∀ j, j < V2.heap.size → j ≠ B + 1 → j ≠ B + 2 + s → Vz.heap[j]? = V2.heap[j]?) := fun j h0 h1 h2 => (hF j h2).trans (HF1.out j h1)
  have HB2 := lh (hB 0 (Nat.zero_le _))
  have hbs := (hB 0 (Nat.zero_le _))
  have hG2 : Blk Vz (B + 1) 133 (grC B st nn) := (hF _ (by omega)).trans G2.out
  have HP := lh (HG.out.put s i hi none nn (by rw [← HKK.out]; exact HN2.out.symm) hG2 (by rw [← HKK.out]; exact HA.out) HF2.out)
  have HAP : Hid (Apart B (2 + st) w Vz) := (Apart.of_below K.out).trans ((Apart.of_grown HB1.out (by omega) (by omega)).trans ⟨hbs.os, hbs.tape, hbs.output, hbs.size, fun j h1 h2 => hF j (by omega)⟩)
  clear hA hF hB hG2 HA HF2 HB2 hbs C2 G2 HF1 HB1
  go_wp2
  go_ret
  exact ⟨rfl, HP.out, HAP.out⟩
set_option maxRecDepth 100000 in
set_option maxHeartbeats 4000000 in
theorem freeT_none (B st sz : Nat) (c : Nat → Option Se) (s i : Nat) (hs : s < st) (hi : i < sz) (hc : c (s * sz + i) = none) (w : World) (h : GdT B st sz c w) :
    Calls Try.prog 31 #[.pointer (some ⟨B + 1, 0, none⟩), .agg (plA s i)] w fun e w' => e = .returned (.bool false) ∧ Below w.heap.size w w' := by
  have K := lh (Below.refl w.heap.size w)
  have HG := lh h
  have CC := lh (fun W h => cellT_yes B st sz c s i hs hi W h)
  have qm : i * 42 < sz * 42 := by omega
  have hst := h.s2
  have hsz := h.z2
  have hlt := h.lt
  clear h
  have PI := lh (plA_i (s : Int) (i : Int))
  generalize plA (s : Int) (i : Int) = pc at *
  have hq := eqcT_some ⟨B + 2 + s, i * 42, none⟩
  have HCC := lh hc
  clear hc
  go_enter Try.func31, Try.ntmps31
  have hal := (Below.refl w.heap.size w).alloc (Nat.le_refl _) (.cells pc 51)
  replace K := lh (K.out.trans (hal.mono K.out.size))
  replace HG := lh (HG.out.below hal)
  have P := lh (Blk.new w 51 pc)
  clear hal
  have L8 : (loadVar 51 ⟨w.heap.size, 0, none⟩).run Try.prog (w.alloc (.cells pc 51)) = .ok (.agg pc) (w.alloc (.cells pc 51)) := run_blk_load (P := Try.prog) 51 (w.heap.size) _ P.out Try.underlying51 rfl PI.out
  replace L8 := lh L8
  go_wp2_with (((with_reducible refine wpList_load_want (op := ⟨some 7, .load 51 (.tmp 3), _, _, _, _⟩) ?wg8 51 (.tmp 3) ?wo8 ⟨w.heap.size, 0, none⟩ ?wx8 (.agg pc) L8.out ?_); (case wg8 => rfl); (case wo8 => rfl); (case wx8 => rfl)))
  clear L8
  have hzV1 : Hid ((w.alloc (.cells pc 51)).heap.size = w.heap.size + 1) := by show _ = _; simp only [World.size_alloc]
  generalize (w.alloc (.cells pc 51)) = V1 at *
  refine (CC.out V1 HG.out).mono ?_
  rintro e V2 ⟨rfl, hy⟩
  replace K := lh (K.out.trans (hy.mono K.out.size))
  replace HG := lh (HG.out.below hy)
  replace P := lh (P.out.below hy P.out.lt)
  clear hy
  have c0 : V2.cell? ⟨B + 2 + s, i * 42, none⟩ = some (.bool false) := (HG.out.cellAt 42 encT_len s i 0 hs hi (by omega)).trans (by rw [HCC.out]; rfl)
  go_wp2
  go_ret
  exact ⟨rfl, K.out⟩
set_option maxRecDepth 100000 in
set_option maxHeartbeats 4000000 in
theorem getT_in (B st sz : Nat) (c : Nat → Option Se) (s i : Nat) (hs : s < st) (hi : i < sz) (w : World) (h : GdT B st sz c w) :
    Calls Try.prog 36 #[.pointer (some ⟨B + 1, 0, none⟩), .agg (plA s i)] w fun e w' => e = .returned (.tuple #[.agg (oC (c (s * sz + i))), .bool (c (s * sz + i)).isSome]) ∧ Below w.heap.size w w' := by
  have K := lh (Below.refl w.heap.size w)
  have HG := lh h
  have CC := lh (fun W h => cellT_yes B st sz c s i hs hi W h)
  have qm : i * 42 < sz * 42 := by omega
  have hst := h.s2
  have hsz := h.z2
  have hlt := h.lt
  clear h
  have PI := lh (plA_i (s : Int) (i : Int))
  generalize plA (s : Int) (i : Int) = pc at *
  have hq := eqcT_some ⟨B + 2 + s, i * 42, none⟩
  obtain ⟨o, ho⟩ : ∃ o, o = c (s * sz + i) := ⟨_, rfl⟩
  rw [← ho]
  have HOO := lh ho
  clear ho
  go_enter Try.func36, Try.ntmps36
  have hal := (Below.refl w.heap.size w).alloc (Nat.le_refl _) (.cells pc 51)
  replace K := lh (K.out.trans (hal.mono K.out.size))
  replace HG := lh (HG.out.below hal)
  have P := lh (Blk.new w 51 pc)
  clear hal
  have hz84 := zero84
  have hal := (Below.refl (w.alloc (.cells pc 51)).heap.size (w.alloc (.cells pc 51))).alloc (Nat.le_refl _) (.cells zSe 84)
  replace K := lh (K.out.trans (hal.mono K.out.size))
  replace HG := lh (HG.out.below hal)
  replace P := lh (P.out.below hal P.out.lt)
  have Rq := Blk.new (w.alloc (.cells pc 51)) 84 zSe
  simp only [World.size_alloc] at Rq
  have R := lh Rq
  clear Rq
  clear hal
  have L9 : (loadVar 51 ⟨w.heap.size, 0, none⟩).run Try.prog ((w.alloc (.cells pc 51)).alloc (.cells zSe 84)) = .ok (.agg pc) ((w.alloc (.cells pc 51)).alloc (.cells zSe 84)) := run_blk_load (P := Try.prog) 51 (w.heap.size) _ P.out Try.underlying51 rfl PI.out
  replace L9 := lh L9
  go_wp2_with (((with_reducible refine wpList_load_want (op := ⟨some 9, .load 51 (.tmp 3), _, _, _, _⟩) ?wg9 51 (.tmp 3) ?wo9 ⟨w.heap.size, 0, none⟩ ?wx9 (.agg pc) L9.out ?_); (case wg9 => rfl); (case wo9 => rfl); (case wx9 => rfl)))
  clear L9
  have hzV1 : Hid (((w.alloc (.cells pc 51)).alloc (.cells zSe 84)).heap.size = w.heap.size + 1 + 1) := by show _ = _; simp only [World.size_alloc]
  generalize ((w.alloc (.cells pc 51)).alloc (.cells zSe 84)) = V1 at *
  refine (CC.out V1 HG.out).mono ?_
  rintro e V2 ⟨rfl, hy⟩
  replace K := lh (K.out.trans (hy.mono K.out.size))
  replace HG := lh (HG.out.below hy)
  replace P := lh (P.out.below hy P.out.lt)
  replace R := lh (R.out.below hy R.out.lt)
  clear hy
  have C := lh (HG.out.C s hs)
  have GC := lh (fun j (hj : j < 42) => (rowC_get encT 42 encT_len c (s * sz) sz i j hi hj))
  have GE0 : Hid ((rowC encT c (s * sz) sz).toArray[i * 42]? = some (.bool o.isSome)) := by
    show (rowC encT c (s * sz) sz).toArray[i * 42]? = _
    rw [List.getElem?_toArray]
    refine (GC.out 0 (by omega)).trans ?_
    rw [← HOO.out, encT_eq]
    rfl
  have GE1 : Hid (((rowC encT c (s * sz) sz).toArray.toList.drop (i * 42 + 1)).take (oC o).toList.length = (oC o).toList) := by
    show _ = _
    have hl := oC_size o
    have hl2 : (oC o).toList.length = 41 := by rw [Array.length_toList, hl]
    apply List.ext_getElem?
    intro j
    rw [List.toList_toArray, List.getElem?_take, List.getElem?_drop]
    by_cases hj : j < (oC o).toList.length
    · rw [if_pos hj, Nat.add_assoc, Nat.add_comm 1 j]
      refine (GC.out (j + 1) (by omega)).trans ?_
      rw [← HOO.out, encT_eq, List.getElem?_cons_succ]
    · rw [if_neg hj, List.getElem?_eq_none (by omega)]
  have OI : Hid ((Try.prog.info? 84).map (·.size) = some (oC o).toList.length) := by rw [Array.length_toList, oC_size]; exact i84
  clear GC
  obtain ⟨rw, hrw⟩ : ∃ x, x = (rowC encT c (s * sz) sz).toArray := ⟨_, rfl⟩
  rw [← hrw] at C GE0 GE1
  clear hrw
  have RS : Hid ((oC o).size = zSe.size) := by show _ = _; rw [oC_size, zSe_size]
  have RI : Hid ((Try.prog.info? 84).map (·.size) = some (oC o).size) := by rw [oC_size]; exact i84
  have RA : Hid ((oC o).all (·.oneCell') = true) := oC_all o
  go_upto_region 5 with fail
  refine wp_region_held (S := (fun w' : World => Blk w' (B + 2 + s) 130 rw)) (by kernel_rfl) ?_
  change wpAnyH _ _ _ _ _ _ _ _ V2.drew
  have hy : Below V2.heap.size V2 V2.drew := (Below.refl _ _).drew
  replace K := lh (K.out.trans (hy.mono K.out.size))
  replace HG := lh (HG.out.below hy)
  replace P := lh (P.out.below hy P.out.lt)
  replace R := lh (R.out.below hy R.out.lt)
  replace C := lh (C.out.below hy C.out.lt)
  clear hy
  generalize V2.drew = Y5h0 at *
  refine tkA 0 (?_) ?_ C.out ?_
  rotate_left
  · (intro w1 hS; go_simp; try with_reducible rfl)
  simp only [Act.put, tS1, tS2, tS3]
  refine tkA 1 (?_) ?_ C.out ?_
  rotate_left
  · (intro w1 hS; go_simp; try with_reducible rfl)
  simp only [Act.put, tS1, tS2, tS3]
  refine tkA 2 (?_) ?_ C.out ?_
  rotate_left
  · (intro w1 hS; go_simp; try with_reducible rfl)
  simp only [Act.put, tS1, tS2, tS3]
  refine tkA 3 (.agg (oC o)) ?_ C.out ?_
  · (intro w1 hS; have hS0 := hS; exact exec_load 84 (.tmp 16) rfl _ rfl _ (by have h := run_part_load (P := Try.prog) 84 (i * 42 + 1) (oC o).toList _ hS0 GE1.out Try.underlying84 rfl OI.out; rwa [Array.toArray_toList] at h))
  simp only [Act.put, tS1, tS2, tS3]
  refine tkA 4 (?_) ?_ C.out ?_
  rotate_left
  · (intro w1 hS; go_simp; try with_reducible rfl)
  simp only [Act.put, tS1, tS2, tS3]
  refine tkA 5 (?_) ?_ C.out ?_
  rotate_left
  · (intro w1 hS; go_simp; try with_reducible rfl)
  simp only [Act.put, tS1, tS2, tS3]
  refine tkA 6 (?_) ?_ C.out ?_
  rotate_left
  · (intro w1 hS; go_simp; try with_reducible rfl)
  simp only [Act.put, tS1, tS2, tS3]
  refine tkA 7 (?_) ?_ C.out ?_
  rotate_left
  · (intro w1 hS; have hS0 := hS; have q := (hS0.cell (i * 42)).trans GE0.out; go_simp; try with_reducible rfl)
  simp only [Act.put, tS1, tS2, tS3]
  refine tkO 8 (fun KK hK => ?_)
  rw [if_pos (by rfl)]
  refine wp_blk_store 84 (.tmp 4) (.tmp 17) rfl (oC o) rfl rfl R.out RS.out RI.out RA.out ?_
  intro Y5h1 hA hF hB
  replace K := lh (K.out.trans (hB _ (by omega)))
  replace HG := lh (HG.out.belowB (hB (w.heap.size) (by omega)) (by omega))
  replace P := lh (show Blk _ _ _ _ from (hF _ (by omega)).trans P.out)
  replace C := lh (show Blk _ _ _ _ from (hF _ (by omega)).trans C.out)
  replace R := lh hA
  clear hA hF hB
  refine hK.out _ _ C.out (fun _ => ?_)
  clear hK KK
  try simp only [Act.put]
  refine tkA 9 (?_) ?_ C.out ?_
  rotate_left
  · (intro w1 hS; go_simp; try with_reducible rfl)
  simp only [Act.put, tS1, tS2, tS3]
  refine wpAnyH_done (by kernel_rfl) ?_ _
  go_wp2
  have hrun := run_blk_load (P := Try.prog) 84 (w.heap.size + 1) _ R.out Try.underlying84 rfl RI.out
  exact bodyPost_ret (results_cell_tmp 4 84 5 (w.heap.size + 1) _ Try.results36 rfl hrun) rfl ⟨rfl, K.out⟩
theorem setT_any (B st sz : Nat) (c : Nat → Option Se) (a b : Int) (v : Se) (w : World) (h : GdT B st sz c w) :
    Calls Try.prog 30 #[.pointer (some ⟨B + 1, 0, none⟩), .agg (plA a b), .agg v.cs] w fun e w' => e = .returned (.bool (decide (inP st sz a b))) ∧ GdT B st sz (ptP st sz c a b (some v)) w' ∧ Apart B (2 + st) w w' := by
  by_cases hp : inP st sz a b
  · rw [decide_eq_true hp]
    obtain ⟨s, i, rfl, rfl, h1, h2⟩ := inP_nat hp
    rw [ptP_in c h1 h2]
    exact setT_in B st sz c s i h1 h2 v w h
  · rw [decide_eq_false hp, ptP_no c hp]
    refine (setT_no B st sz c a b hp v w h).mono ?_
    rintro e w' ⟨rfl, hy⟩
    exact ⟨rfl, h.below hy, .of_below hy⟩
theorem getT_any (B st sz : Nat) (c : Nat → Option Se) (a b : Int) (w : World) (h : GdT B st sz c w) :
    Calls Try.prog 36 #[.pointer (some ⟨B + 1, 0, none⟩), .agg (plA a b)] w fun e w' => e = .returned (.tuple #[.agg (oC (lkP st sz c a b)), .bool (lkP st sz c a b).isSome]) ∧ Below w.heap.size w w' := by
  by_cases hp : inP st sz a b
  · obtain ⟨s, i, rfl, rfl, h1, h2⟩ := inP_nat hp
    rw [lkP_in c h1 h2]
    exact getT_in B st sz c s i h1 h2 w h
  · rw [lkP_no c hp]
    exact getT_no B st sz c a b hp w h
theorem freeT_any (B st sz : Nat) (c : Nat → Option Se) (a b : Int) (w : World) (h : GdT B st sz c w) :
    Calls Try.prog 31 #[.pointer (some ⟨B + 1, 0, none⟩), .agg (plA a b)] w fun e w' => e = .returned (.bool (lkP st sz c a b).isSome) ∧ GdT B st sz (ptP st sz c a b none) w' ∧ Apart B (2 + st) w w' := by
  by_cases hp : inP st sz a b
  · obtain ⟨s, i, rfl, rfl, h1, h2⟩ := inP_nat hp
    rw [lkP_in c h1 h2, ptP_in c h1 h2]
    cases hc : c (s * sz + i) with
    | some u => exact freeT_in B st sz c s i h1 h2 u hc w h
    | none =>
      refine (freeT_none B st sz c s i h1 h2 hc w h).mono ?_
      rintro e w' ⟨rfl, hy⟩
      refine ⟨rfl, ?_, .of_below hy⟩
      rw [← hc, putC_same]
      exact h.below hy
  · rw [lkP_no c hp, ptP_no c hp]
    refine (freeT_no B st sz c a b hp w h).mono ?_
    rintro e w' ⟨rfl, hy⟩
    exact ⟨rfl, h.below hy, .of_below hy⟩
end Go.Proofs.Ythldpnifodbheaa
namespace Go.Proofs.Ythldpnifodbheaa
open Go.RowKit Go.Lib
def hdrJ (B sz st j : Nat) : List Value := (List.range st).map fun s => if s < j then Value.slice (some ⟨B + 2 + s, 0, none⟩) sz sz else .slice none 0 0
theorem hdrJ_all (B sz st : Nat) : hdrJ B sz st st = hdr B sz st := by
  unfold hdrJ hdr
  refine List.map_congr_left fun s hs => ?_
  rw [if_pos (List.mem_range.mp hs)]
theorem hdrJ_zero (B sz st : Nat) : hdrJ B sz st 0 = List.replicate st (.slice none 0 0) := by
  unfold hdrJ
  simp [List.map_const']
theorem hdrJ_get (B sz st j : Nat) (h : j < st) : (hdrJ B sz st j).toArray[j]? = some (.slice none 0 0) := by
  unfold hdrJ; simp [List.getElem?_range h]
theorem hdrJ_next (B sz st j : Nat) : (hdrJ B sz st j).toArray.setIfInBounds j (.slice (some ⟨B + 2 + j, 0, none⟩) sz sz) = (hdrJ B sz st (j + 1)).toArray := by
  apply Array.ext_getElem?
  intro i
  rw [Array.getElem?_setIfInBounds]
  unfold hdrJ
  simp only [List.size_toArray, List.length_map, List.length_range, List.getElem?_toArray, List.getElem?_map]
  by_cases hi : i < st
  · rw [List.getElem?_range hi]
    by_cases h : j = i
    · subst h; rw [if_pos rfl, if_pos hi, Option.map_some, if_pos (by omega)]
    · rw [if_neg h, Option.map_some, Option.map_some]
      by_cases h2 : i < j
      · rw [if_pos h2, if_pos (by omega)]
      · rw [if_neg h2, if_neg (by omega)]
  · rw [List.getElem?_eq_none (by simp; omega)]
    by_cases h : j = i
    · subst h; rw [if_pos rfl, if_neg hi]; rfl
    · rw [if_neg h]; rfl
theorem made_row {α : Type} (enc : Option α → List Value) (m : Nat) (he : ∀ o, (enc o).length = m) (hm : 0 < m) (a n : Nat) : madeCells (enc none).toArray (n * m) = (rowC enc (fun _ => none) a n).toArray := by
  apply Array.ext_getElem?
  intro j
  rw [List.getElem?_toArray (xs := rowC enc (fun _ => none) a n)]
  have hl := rowC_len enc m he (fun _ => none) a n
  by_cases hj : j < n * m
  · have hq : j / m < n := Nat.div_lt_of_lt_mul (by rw [Nat.mul_comm]; exact hj)
    have hr : j % m < m := Nat.mod_lt _ hm
    have ej := Nat.div_add_mod' j m
    have g := rowC_get enc m he (fun _ => none) a n (j / m) (j % m) hq hr
    rw [ej] at g
    rw [g]
    unfold madeCells
    rw [Array.getElem?_map, Array.getElem?_range, if_pos hj, Option.map_some, List.size_toArray, he]
    have h1 : j % m < (enc none).length := by rw [he]; exact hr
    rw [List.getElem?_eq_getElem h1]
    simp [h1]
  · rw [List.getElem?_eq_none (by omega), Array.getElem?_eq_none (by rw [size_madeCells]; omega)]
theorem made_hdr (B sz st : Nat) : madeCells #[Value.slice none 0 0] (st * 1) = (hdrJ B sz st 0).toArray := by
  rw [Nat.mul_one, hdrJ_zero, ← toList_madeCells_one, Array.toArray_toList]
theorem wp_mk {P : Program} {o : Oper} {a : Act} {w : World} {K : Act → World → Prop} {Q : Exit → Act → World → Prop} (t e : TypeId) (z : Value) (m : Nat) (l c : Operand) (hop : o.op = Op.makeSlice t l c) (hu : P.underlying t = some (.slice e)) (bb : Nat) (hi : (P.info? e).map (fun i => (i.zero, i.size, i.bytes)) = some (some z, m, bb)) (hb : bb ≤ 128)
    (n : Nat) (hn : n ≤ 1048576) (hl : a.eval l = .int .i64 (n : Int)) (hc : a.eval c = .int .i64 (n : Int))
    (hK : K (a.put o.dst (.slice (some ⟨w.heap.size, 0, none⟩) n n)) (w.alloc (.cells (madeCells z.cells (n * m)) e))) : Oper.wp P o a w K Q := by
  obtain ⟨i, hi, hz, hs, hy⟩ := info_parts hi
  have hbb : (i.bytes : Int) * (n : Int) ≤ 281474976710656 := by
    rw [hy]
    have : bb * n ≤ 128 * 1048576 := Nat.mul_le_mul hb hn
    have h2 : ((bb * n : Nat) : Int) ≤ 281474976710656 := by omega
    rwa [Int.natCast_mul] at h2
  have hrun := run_make (P := P) w t e i z hu hi hz .i64 .i64 n n (by omega) (Int.le_refl _) hbb (by omega)
  simp only [Int.toNat_natCast, hs] at hrun
  unfold Oper.wp
  simp only [execOp, hop, hl, hc, hrun, Sem.run_bind, Result.andThen_ok, Sem.run_pure]
  exact hK
theorem wpList_mk {P : Program} {ops : Array Oper} {rest : List Oper} {o : Oper} {a : Act} {w : World} {Q : Exit → Act → World → Prop} (hg : o.guard = none) (t e : TypeId) (z : Value) (m : Nat) (l c : Operand) (hop : o.op = Op.makeSlice t l c) (hu : P.underlying t = some (.slice e)) (bb : Nat) (hi : (P.info? e).map (fun i => (i.zero, i.size, i.bytes)) = some (some z, m, bb)) (hb : bb ≤ 128)
    (n : Nat) (hn : n ≤ 1048576) (hl : a.eval l = .int .i64 (n : Int)) (hc : a.eval c = .int .i64 (n : Int))
    (hK : wpList P ops Q rest (a.put o.dst (.slice (some ⟨w.heap.size, 0, none⟩) n n)) (w.alloc (.cells (madeCells z.cells (n * m)) e))) : wpList P ops Q (o :: rest) a w :=
  wpList_plain hg fun _ hK' => wp_mk t e z m l c hop hu bb hi hb n hn hl hc (hK' _ _ hK)
theorem infCT : (Try.prog.info? 130).map (fun i => (i.zero, i.size, i.bytes)) = some (some (.agg (encT none).toArray), 42, 72) := by kernel_rfl
theorem infRT : (Try.prog.info? 141).map (fun i => (i.zero, i.size, i.bytes)) = some (some (.slice none 0 0), 1, 24) := by kernel_rfl
theorem builtGT (B st : Nat) : Try.prog.built 133 [(0, .slice (some ⟨B, 0, none⟩) st st)] = some (grC B st 0) := by kernel_rfl
structure MK {α : Type} (tG tR tC : TypeId) (enc : Option α → List Value) (B st sz j : Nat) (W : World) : Prop where
  size : W.heap.size = B + 2 + j
  G : Blk W (B + 1) tG (grC B st 0)
  R : Blk W B tR (hdrJ B sz st j).toArray
  C : ∀ s, s < j → Blk W (B + 2 + s) tC (rowC enc (fun _ => none) (s * sz) sz).toArray
set_option maxRecDepth 100000 in
set_option maxHeartbeats 4000000 in
theorem newT_yes (st sz : Nat) (h1 : 1 ≤ st) (h2 : st ≤ 4) (h3 : 1 ≤ sz) (h4 : sz ≤ 1024) (w : World) :
    Calls Try.prog 46 #[.int .i64 (st : Int), .int .i64 (sz : Int)] w fun e w' => e = .returned (.tuple #[.pointer (some ⟨w.heap.size + 1, 0, none⟩), .int .i64 0]) ∧ GdT w.heap.size st sz (fun _ => none) w' ∧ Below w.heap.size w w' := by
  have K := lh (Below.refl w.heap.size w)
  have d0 : decide ((st : Int) < 1) = false := decide_eq_false (by omega)
  have e0 : decide (st < 1) = false := decide_eq_false (by omega)
  have d1 : decide ((st : Int) > 4) = false := decide_eq_false (by omega)
  have e1 : decide (st > 4) = false := decide_eq_false (by omega)
  have d2 : decide ((sz : Int) < 1) = false := decide_eq_false (by omega)
  have e2 : decide (sz < 1) = false := decide_eq_false (by omega)
  have d3 : decide ((sz : Int) > 1024) = false := decide_eq_false (by omega)
  have e3 : decide (sz > 1024) = false := decide_eq_false (by omega)
  have e4 : decide (4 < st) = false := decide_eq_false (by omega)
  have e5 : decide (1024 < sz) = false := decide_eq_false (by omega)
  have hBu := lh builtGT
  go_enter Try.func46, Try.ntmps46
  go_wp2_with (first | (at_make; refine wpList_mk rfl _ 141 (.slice none 0 0) 1 _ _ rfl Try.underlying131 24 infRT (by decide) st (by omega) rfl rfl ?_))
  obtain ⟨V, hV⟩ : ∃ V, V = (w.alloc (.cells (madeCells #[Value.slice none 0 0] st) 141)).alloc (.cells #[.slice (some ⟨w.heap.size, 0, none⟩) st st, .int .i64 0] 133) := ⟨_, rfl⟩
  rw [← hV]
  have hmd := made_hdr w.heap.size sz st
  rw [Nat.mul_one] at hmd
  have m0 : MK 133 141 130 encT w.heap.size st sz 0 V := by
    rw [hV, hmd]
    refine ⟨by simp, ?_, ?_, fun s hs => absurd hs (Nat.not_lt_zero _)⟩
    · have := Blk.new (w.alloc (.cells (hdrJ w.heap.size sz st 0).toArray 141)) 133 (grC w.heap.size st 0)
      simp only [World.size_alloc] at this
      exact this
    · exact (Blk.new w 141 (hdrJ w.heap.size sz st 0).toArray).alloc _
  have M0 := lh m0
  have K0 : Hid (Below w.heap.size w V) := by
    show Below _ _ _
    rw [hV]
    exact ((Below.refl w.heap.size w).alloc (Nat.le_refl _) _).alloc (by simp) _
  obtain ⟨B, hB⟩ : ∃ B, B = w.heap.size := ⟨_, rfl⟩
  rw [← hB] at M0 K0 ⊢
  have HB := lh hB
  clear hmd m0 hV K hB hBu
  go_loopw [31] (fun i wr => ∃ j : Nat, j ≤ st ∧ i = .int .i64 (j : Int) ∧ Hid (MK 133 141 130 encT B st sz j wr) ∧ Hid (Below B w wr)) (fun i _ => st - (RowKit.intOf i).toNat)
  case atStart => exact ⟨0, by omega, rfl, M0, K0⟩
  case round =>
    obtain ⟨j, hj, rfl, Mr, Kr⟩ := hrel
    clear M0 K0
    by_cases hlt : j < st
    · have d8 : decide ((j : Int) < (st : Int)) = true := decide_eq_true (by omega)
      have d9 : decide (j < st) = true := decide_eq_true (by omega)
      have w6 : IntKind.i64.wrap ((j : Int) + 1) = ((j + 1 : Nat) : Int) := by rw [IntKind.wrap_i64]; omega
      have hb2 : 0 ≤ (j : Int) ∧ (j : Int) < (st : Int) := by omega
      go_upto_region 7 with fail
      refine wp_region_held (S := (fun w' : World => Blk w' (B + 1) 133 (grC B st 0))) (by kernel_rfl) ?_
      change wpAnyH _ _ _ _ _ _ _ _ wr.drew
      have Md : Hid (MK 133 141 130 encT B st sz j wr.drew) := ⟨Mr.out.size, Mr.out.G.drew, Mr.out.R.drew, fun s h => (Mr.out.C s h).drew⟩
      have Kd : Hid (Below B w wr.drew) := Kr.out.drew
      clear Mr Kr
      generalize wr.drew = Y0 at *
      have SG := lh Md.out.G
      refine tkA 0 (?_) ?_ SG.out ?_
      rotate_left
      · (intro w1 hS; go_simp; try with_reducible rfl)
      simp only [Act.put, tS1, tS2, tS3]
      refine tkA 1 (?_) ?_ SG.out ?_
      rotate_left
      · (intro w1 hS; go_simp; try with_reducible rfl)
      simp only [Act.put, tS1, tS2, tS3]
      refine tkA 2 (?_) ?_ SG.out ?_
      rotate_left
      · (intro w1 hS; go_simp; try with_reducible rfl)
      simp only [Act.put, tS1, tS2, tS3]
      refine tkA 3 (?_) ?_ SG.out ?_
      rotate_left
      · (intro w1 hS; have q := (hS.cell 0).trans (grC_get B st 0).1; clear hS; go_simp; try with_reducible rfl)
      simp only [Act.put, tS1, tS2, tS3]
      refine tkA 4 (?_) ?_ SG.out ?_
      rotate_left
      · (intro w1 hS; go_simp; try with_reducible rfl)
      simp only [Act.put, tS1, tS2, tS3]
      refine tkA 5 (?_) ?_ SG.out ?_
      rotate_left
      · (intro w1 hS; go_simp; try with_reducible rfl)
      simp only [Act.put, tS1, tS2, tS3]
      refine tkO 6 (fun KK hK => ?_)
      rw [if_pos (by rfl)]
      refine wp_mk _ 130 (.agg (encT none).toArray) 42 _ _ rfl Try.underlying141 72 infCT (by decide) sz (by omega) rfl rfl ?_
      rw [show (.agg (encT none).toArray : Value).cells = (encT none).toArray from rfl, made_row encT 42 encT_len (by decide) (j * sz) sz]
      obtain ⟨Y1, hY1⟩ : ∃ Y, Y = Y0.alloc (.cells (rowC encT (fun _ => none) (j * sz) sz).toArray 130) := ⟨_, rfl⟩
      rw [← hY1]
      have hal : Below Y0.heap.size Y0 Y1 := hY1 ▸ (Below.refl Y0.heap.size Y0).alloc (Nat.le_refl _) _
      have hnw : Blk Y1 Y0.heap.size 130 (rowC encT (fun _ => none) (j * sz) sz).toArray := hY1 ▸ Blk.new Y0 _ _
      have hsz : Y1.heap.size = B + 2 + (j + 1) := by rw [hY1, World.size_alloc, Md.out.size, Nat.add_assoc (B + 2)]
      have e0 := Md.out.size
      rw [e0] at hnw
      have Kx := lh (Kd.out.trans (hal.mono (by omega)))
      have NW := lh hnw
      have RR := lh (Md.out.R.below hal (by omega))
      have CCs := lh (fun s (h : s < j) => (Md.out.C s h).below hal (by omega))
      have HSZ := lh hsz
      rw [e0]
      have G2 := lh (SG.out.below hal (by omega))
      clear hal hnw hsz hY1 Kd Md SG e0
      have SG := G2
      clear G2
      refine hK.out _ _ SG.out (fun _ => ?_)
      clear hK KK
      simp only [Act.put, tS1, tS2, tS3]
      refine tkA 7 (?_) ?_ SG.out ?_
      rotate_left
      · (intro w1 hS; go_simp; try with_reducible rfl)
      simp only [Act.put, tS1, tS2, tS3]
      refine tkO 8 (fun KK hK => ?_)
      have k1 := (RR.out.cell j).trans (hdrJ_get B sz st j hlt)
      have k2 := RR.out.frozen j
      go_simp
      have R2 := lh (RR.out.set_ j (.slice (some ⟨B + 2 + j, 0, none⟩) sz sz))
      rw [hdrJ_next] at R2
      have hst := (Below.refl 0 Y1).setCell (p := ⟨B, j, none⟩) (Nat.zero_le _) (.slice (some ⟨B + 2 + j, 0, none⟩) sz sz)
      have G2 := lh (SG.out.far (p := ⟨B, j, none⟩) (by show B + 1 ≠ B; omega) (.slice (some ⟨B + 2 + j, 0, none⟩) sz sz))
      have N2 := lh (NW.out.far (p := ⟨B, j, none⟩) (by show B + 2 + j ≠ B; omega) (.slice (some ⟨B + 2 + j, 0, none⟩) sz sz))
      have C2 := lh (fun s (h : s < j) => (CCs.out s h).far (p := ⟨B, j, none⟩) (by show B + 2 + s ≠ B; omega) (.slice (some ⟨B + 2 + j, 0, none⟩) sz sz))
      have K2 := lh (Kx.out.setCell (p := ⟨B, j, none⟩) (by show B ≤ B; omega) (.slice (some ⟨B + 2 + j, 0, none⟩) sz sz))
      have S2 : Hid ((Y1.setCell ⟨B, j, none⟩ (.slice (some ⟨B + 2 + j, 0, none⟩) sz sz)).heap.size = B + 2 + (j + 1)) := by show _ = _; rw [← HSZ.out]; exact Array.size_modify ..
      clear k1 k2 hst Kx RR CCs HSZ NW SG
      generalize Y1.setCell ⟨B, j, none⟩ (.slice (some ⟨B + 2 + j, 0, none⟩) sz sz) = Y2 at *
      refine hK.out _ _ G2.out (fun _ => ?_)
      clear hK KK
      try simp only [Act.put, tS1, tS2, tS3]
      refine wpAnyH_done (by kernel_rfl) ?_ _
      have MM : Hid (MK 133 141 130 encT B st sz (j + 1) Y2) := ⟨S2.out, G2.out, R2.out, fun s hs => by
        by_cases e : s = j
        · subst e; exact N2.out
        · exact C2.out s (by omega)⟩
      clear S2 G2 R2 N2 C2
      go_wp2
      go_roundw
      case rel => exact ⟨j + 1, Nat.succ_le_of_lt hlt, by go_num, MM, K2⟩
      case measure => simp [RowKit.intOf]; omega
    · obtain rfl : j = st := by omega
      have d8 : decide (((j : Nat) : Int) < (j : Int)) = false := decide_eq_false (by omega)
      have d9 : decide (j < j) = false := decide_eq_false (by omega)
      go_wp2
      go_ret2
      rw [← HB.out]
      exact ⟨rfl, ⟨by rw [itF_none]; exact Mr.out.G, by rw [← hdrJ_all]; exact Mr.out.R, Mr.out.C, h1, h2, h3, h4⟩, Kr.out⟩
end Go.Proofs.Ythldpnifodbheaa
