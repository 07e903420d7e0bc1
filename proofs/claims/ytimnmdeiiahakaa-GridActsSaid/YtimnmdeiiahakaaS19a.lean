/- grid's In and cell, of each kind. -/
import Derived.Test.YtimnmdeiiahakaaP62
import Derived.Test.YtimnmdeiiahakaaTk
import Derived.Test.YtimnmdeiiahakaaLw
import Derived.Test.YtimnmdeiiahakaaSb
import Derived.Deep.CutBlock
import Derived.Deep.DeepCutAuto
import Derived.LoopTactic
import Derived.Handy
namespace Go.Proofs.Ytimnmdeiiahakaa
open Go.RowKit Go.Lib

/-- A place's cells. -/
def plA (a b : Int) : Array Value := #[.int .i64 a, .int .i64 b]
theorem plA_get (a b : Int) : (plA a b)[0]? = some (.int .i64 a) ∧ (plA a b)[1]? = some (.int .i64 b) := ⟨rfl, rfl⟩
theorem i30 : (Try.prog.info? 30).map (·.size) = some 2 := by kernel_rfl
theorem plA_i (a b : Int) : (Try.prog.info? 30).map (·.size) = some (plA a b).size := i30
def inP (st sz : Nat) (a b : Int) : Prop := 0 ≤ a ∧ a < (st : Int) ∧ 0 ≤ b ∧ b < (sz : Int)
instance (st sz : Nat) (a b : Int) : Decidable (inP st sz a b) := by unfold inP; exact inferInstance
def encI : Option Int → List Value | none => [.bool false, .int .i64 0] | some v => [.bool true, .int .i64 v]
def encA : Option (Int × Int) → List Value | none => [.bool false, .int .i64 0, .int .i64 0] | some v => [.bool true, .int .i64 v.1, .int .i64 v.2]
def encS : Option ByteArray → List Value | none => [.bool false, .string { data := #[] }] | some v => [.bool true, .string v]
theorem encI_len (o : Option Int) : (encI o).length = 2 := by cases o <;> rfl
theorem encA_len (o : Option (Int × Int)) : (encA o).length = 3 := by cases o <;> rfl
theorem encS_len (o : Option ByteArray) : (encS o).length = 2 := by cases o <;> rfl
abbrev GdI (B st sz : Nat) (c : Nat → Option Int) (W : World) : Prop := GS 67 68 72 encI B st sz c W
theorem eqgI_none (W : World) : (binOp .eql 24 (.pointer none) (.pointer none)).run Try.prog W = .ok (.bool true) W := by kernel_rfl
theorem eqgI_some (p : Addr) (W : World) : (binOp .eql 24 (.pointer (some p)) (.pointer none)).run Try.prog W = .ok (.bool false) W := by kernel_rfl
abbrev GdA (B st sz : Nat) (c : Nat → Option (Int × Int)) (W : World) : Prop := GS 78 79 83 encA B st sz c W
theorem eqgA_none (W : World) : (binOp .eql 43 (.pointer none) (.pointer none)).run Try.prog W = .ok (.bool true) W := by kernel_rfl
theorem eqgA_some (p : Addr) (W : World) : (binOp .eql 43 (.pointer (some p)) (.pointer none)).run Try.prog W = .ok (.bool false) W := by kernel_rfl
abbrev GdS (B st sz : Nat) (c : Nat → Option ByteArray) (W : World) : Prop := GS 86 87 91 encS B st sz c W
theorem eqgS_none (W : World) : (binOp .eql 59 (.pointer none) (.pointer none)).run Try.prog W = .ok (.bool true) W := by kernel_rfl
theorem eqgS_some (p : Addr) (W : World) : (binOp .eql 59 (.pointer (some p)) (.pointer none)).run Try.prog W = .ok (.bool false) W := by kernel_rfl
set_option maxRecDepth 100000 in
set_option maxHeartbeats 4000000 in
theorem inI_lo (B st sz : Nat) (c : Nat → Option Int) (a b : Int) (h1 : a < 0) (w : World) (h : GdI B st sz c w) :
    Calls Try.prog 14 #[.pointer (some ⟨B + 1, 0, none⟩), .agg (plA a b)] w fun e w' => e = .returned (.bool false) ∧ Below w.heap.size w w' := by
  have K := Lib.hid (Below.refl w.heap.size w)
  have G := Lib.hid h.G
  have R := Lib.hid h.R
  have hlt := h.lt
  have hst := h.s2
  have hsz := h.z2
  have HD := Lib.hid (hdr_get B sz st)
  obtain ⟨p0, p1⟩ := plA_get a b
  have P0 := Lib.hid p0
  have P1 := Lib.hid p1
  have PI := Lib.hid (plA_i a b)
  obtain ⟨g0, g1⟩ := grC_get B st (itF c 0 (st * sz)).length
  have G0 := Lib.hid g0
  clear p0 p1 g0 g1 h
  generalize plA a b = pc at *
  generalize grC B st (itF c 0 (st * sz)).length = gc at *
  have d1 : decide (a < 0) = true := decide_eq_true h1
  have hq := eqgI_some ⟨B + 1, 0, none⟩
  go_enter Try.func14, Try.ntmps14
  have hal := (Below.refl w.heap.size w).alloc (Nat.le_refl _) (.cells pc 30)
  replace K := Lib.hid (K.out.trans (hal.mono K.out.size))
  replace G := Lib.hid (G.out.below hal G.out.lt)
  replace R := Lib.hid (R.out.below hal R.out.lt)
  have P := Lib.hid (Blk.new w 30 pc)
  clear hal
  go_wp2_with fail
  have hzV1 : Hid ((w.alloc (.cells pc 30)).heap.size = w.heap.size + 1) := by show _ = _; simp only [World.size_alloc]
  generalize (w.alloc (.cells pc 30)) = V1 at *
  refine wp_region_held (S := (fun w' : World => Below (V1.heap.size) V1 w')) (by kernel_rfl) ?_
  change wpAnyH _ _ _ _ _ _ _ _ V1.drew
  have hy : Below V1.heap.size V1 V1.drew := (Below.refl _ _).drew
  have hE0 : Below (V1.heap.size) V1 V1.drew := (Below.refl _ _).drew
  clear hy
  generalize V1.drew = Y1x0 at hE0  ⊢
  have E0 := Lib.hid hE0
  clear hE0
  refine tkA 0 (?_) ?_ E0.out ?_
  rotate_left
  · (intro w1 hS; go_simp; try with_reducible rfl)
  simp only [Act.put, tS1, tS2, tS3]
  refine tkA 1 (?_) ?_ E0.out ?_
  rotate_left
  · (intro w1 hS; go_simp; try with_reducible rfl)
  simp only [Act.put, tS1, tS2, tS3]
  refine tkA 2 (?_) ?_ E0.out ?_
  rotate_left
  · (intro w1 hS; go_simp; try with_reducible rfl)
  simp only [Act.put, tS1, tS2, tS3]
  refine tkA 3 (?_) ?_ E0.out ?_
  rotate_left
  · (intro w1 hS; go_simp; try with_reducible rfl)
  simp only [Act.put, tS1, tS2, tS3]
  refine tkA 4 (?_) ?_ E0.out ?_
  rotate_left
  · (intro w1 hS; have hW := hS; have q := ((P.out.below hW P.out.lt).cell 0).trans P0.out; clear hW hS; go_simp; try with_reducible rfl)
  simp only [Act.put, tS1, tS2, tS3]
  refine tkA 5 (?_) ?_ E0.out ?_
  rotate_left
  · (intro w1 hS; go_simp; try with_reducible rfl)
  simp only [Act.put, tS1, tS2, tS3]
  refine tkA 6 (?_) ?_ E0.out ?_
  rotate_left
  · (intro w1 hS; go_simp; try with_reducible rfl)
  simp only [Act.put, tS1, tS2, tS3]
  refine tkA 7 (?_) ?_ E0.out ?_
  rotate_left
  · (intro w1 hS; go_simp; try with_reducible rfl)
  simp only [Act.put, tS1, tS2, tS3]
  refine tkN 8 E0.out ?_
  simp only [Act.put, tS1, tS2, tS3]
  refine tkN 9 E0.out ?_
  simp only [Act.put, tS1, tS2, tS3]
  refine tkN 10 E0.out ?_
  simp only [Act.put, tS1, tS2, tS3]
  refine tkN 11 E0.out ?_
  simp only [Act.put, tS1, tS2, tS3]
  refine tkN 12 E0.out ?_
  simp only [Act.put, tS1, tS2, tS3]
  refine tkN 13 E0.out ?_
  simp only [Act.put, tS1, tS2, tS3]
  refine tkN 14 E0.out ?_
  simp only [Act.put, tS1, tS2, tS3]
  refine tkN 15 E0.out ?_
  simp only [Act.put, tS1, tS2, tS3]
  refine tkA 16 (?_) ?_ E0.out ?_
  rotate_left
  · (intro w1 hS; go_simp; try with_reducible rfl)
  simp only [Act.put, tS1, tS2, tS3]
  refine wpAnyH_done (by kernel_rfl) ?_ _
  have hy := E0.out
  replace K := Lib.hid (K.out.trans (hy.mono K.out.size))
  replace G := Lib.hid (G.out.below hy G.out.lt)
  replace R := Lib.hid (R.out.below hy R.out.lt)
  replace P := Lib.hid (P.out.below hy P.out.lt)
  clear hy E0
  go_wp2
  go_ret
  exact ⟨rfl, K.out⟩
set_option maxRecDepth 100000 in
set_option maxHeartbeats 4000000 in
theorem inI_hi (B st sz : Nat) (c : Nat → Option Int) (a b : Int) (h1 : 0 ≤ a ∧ (st : Int) ≤ a) (w : World) (h : GdI B st sz c w) :
    Calls Try.prog 14 #[.pointer (some ⟨B + 1, 0, none⟩), .agg (plA a b)] w fun e w' => e = .returned (.bool false) ∧ Below w.heap.size w w' := by
  have K := Lib.hid (Below.refl w.heap.size w)
  have G := Lib.hid h.G
  have R := Lib.hid h.R
  have hlt := h.lt
  have hst := h.s2
  have hsz := h.z2
  have HD := Lib.hid (hdr_get B sz st)
  obtain ⟨p0, p1⟩ := plA_get a b
  have P0 := Lib.hid p0
  have P1 := Lib.hid p1
  have PI := Lib.hid (plA_i a b)
  obtain ⟨g0, g1⟩ := grC_get B st (itF c 0 (st * sz)).length
  have G0 := Lib.hid g0
  clear p0 p1 g0 g1 h
  generalize plA a b = pc at *
  generalize grC B st (itF c 0 (st * sz)).length = gc at *
  obtain ⟨q1, q2⟩ := h1
  have d1 : decide (a < 0) = false := decide_eq_false (by omega)
  have d2 : decide (a ≥ (st : Int)) = true := decide_eq_true (by omega)
  have d3 : decide ((st : Int) ≤ a) = true := decide_eq_true (by omega)
  have hq := eqgI_some ⟨B + 1, 0, none⟩
  go_enter Try.func14, Try.ntmps14
  have hal := (Below.refl w.heap.size w).alloc (Nat.le_refl _) (.cells pc 30)
  replace K := Lib.hid (K.out.trans (hal.mono K.out.size))
  replace G := Lib.hid (G.out.below hal G.out.lt)
  replace R := Lib.hid (R.out.below hal R.out.lt)
  have P := Lib.hid (Blk.new w 30 pc)
  clear hal
  go_wp2_with fail
  have hzV1 : Hid ((w.alloc (.cells pc 30)).heap.size = w.heap.size + 1) := by show _ = _; simp only [World.size_alloc]
  generalize (w.alloc (.cells pc 30)) = V1 at *
  refine wp_region_held (S := (fun w' : World => Below (V1.heap.size) V1 w')) (by kernel_rfl) ?_
  change wpAnyH _ _ _ _ _ _ _ _ V1.drew
  have hy : Below V1.heap.size V1 V1.drew := (Below.refl _ _).drew
  have hE0 : Below (V1.heap.size) V1 V1.drew := (Below.refl _ _).drew
  clear hy
  generalize V1.drew = Y1x0 at hE0  ⊢
  have E0 := Lib.hid hE0
  clear hE0
  refine tkA 0 (?_) ?_ E0.out ?_
  rotate_left
  · (intro w1 hS; go_simp; try with_reducible rfl)
  simp only [Act.put, tS1, tS2, tS3]
  refine tkA 1 (?_) ?_ E0.out ?_
  rotate_left
  · (intro w1 hS; go_simp; try with_reducible rfl)
  simp only [Act.put, tS1, tS2, tS3]
  refine tkA 2 (?_) ?_ E0.out ?_
  rotate_left
  · (intro w1 hS; go_simp; try with_reducible rfl)
  simp only [Act.put, tS1, tS2, tS3]
  refine tkA 3 (?_) ?_ E0.out ?_
  rotate_left
  · (intro w1 hS; go_simp; try with_reducible rfl)
  simp only [Act.put, tS1, tS2, tS3]
  refine tkA 4 (?_) ?_ E0.out ?_
  rotate_left
  · (intro w1 hS; have hW := hS; have q := ((P.out.below hW P.out.lt).cell 0).trans P0.out; clear hW hS; go_simp; try with_reducible rfl)
  simp only [Act.put, tS1, tS2, tS3]
  refine tkA 5 (?_) ?_ E0.out ?_
  rotate_left
  · (intro w1 hS; go_simp; try with_reducible rfl)
  simp only [Act.put, tS1, tS2, tS3]
  refine tkA 6 (?_) ?_ E0.out ?_
  rotate_left
  · (intro w1 hS; go_simp; try with_reducible rfl)
  simp only [Act.put, tS1, tS2, tS3]
  refine tkA 7 (?_) ?_ E0.out ?_
  rotate_left
  · (intro w1 hS; go_simp; try with_reducible rfl)
  simp only [Act.put, tS1, tS2, tS3]
  refine tkA 8 (?_) ?_ E0.out ?_
  rotate_left
  · (intro w1 hS; go_simp; try with_reducible rfl)
  simp only [Act.put, tS1, tS2, tS3]
  refine tkA 9 (?_) ?_ E0.out ?_
  rotate_left
  · (intro w1 hS; have hW := hS; have q := ((P.out.below hW P.out.lt).cell 0).trans P0.out; clear hW hS; go_simp; try with_reducible rfl)
  simp only [Act.put, tS1, tS2, tS3]
  refine tkA 10 (?_) ?_ E0.out ?_
  rotate_left
  · (intro w1 hS; go_simp; try with_reducible rfl)
  simp only [Act.put, tS1, tS2, tS3]
  refine tkA 11 (?_) ?_ E0.out ?_
  rotate_left
  · (intro w1 hS; go_simp; try with_reducible rfl)
  simp only [Act.put, tS1, tS2, tS3]
  refine tkA 12 (?_) ?_ E0.out ?_
  rotate_left
  · (intro w1 hS; go_simp; try with_reducible rfl)
  simp only [Act.put, tS1, tS2, tS3]
  refine tkA 13 (?_) ?_ E0.out ?_
  rotate_left
  · (intro w1 hS; have hW := hS; have q := ((G.out.below hW G.out.lt).cell 0).trans G0.out; clear hW hS; go_simp; try with_reducible rfl)
  simp only [Act.put, tS1, tS2, tS3]
  refine tkA 14 (?_) ?_ E0.out ?_
  rotate_left
  · (intro w1 hS; go_simp; try with_reducible rfl)
  simp only [Act.put, tS1, tS2, tS3]
  refine tkA 15 (?_) ?_ E0.out ?_
  rotate_left
  · (intro w1 hS; go_simp; try with_reducible rfl)
  simp only [Act.put, tS1, tS2, tS3]
  refine tkA 16 (?_) ?_ E0.out ?_
  rotate_left
  · (intro w1 hS; go_simp; try with_reducible rfl)
  simp only [Act.put, tS1, tS2, tS3]
  refine wpAnyH_done (by kernel_rfl) ?_ _
  have hy := E0.out
  replace K := Lib.hid (K.out.trans (hy.mono K.out.size))
  replace G := Lib.hid (G.out.below hy G.out.lt)
  replace R := Lib.hid (R.out.below hy R.out.lt)
  replace P := Lib.hid (P.out.below hy P.out.lt)
  clear hy E0
  go_wp2
  go_ret
  exact ⟨rfl, K.out⟩
set_option maxRecDepth 100000 in
set_option maxHeartbeats 4000000 in
theorem inI_blo (B st sz : Nat) (c : Nat → Option Int) (a b : Int) (h1 : 0 ≤ a ∧ a < (st : Int) ∧ b < 0) (w : World) (h : GdI B st sz c w) :
    Calls Try.prog 14 #[.pointer (some ⟨B + 1, 0, none⟩), .agg (plA a b)] w fun e w' => e = .returned (.bool false) ∧ Below w.heap.size w w' := by
  have K := Lib.hid (Below.refl w.heap.size w)
  have G := Lib.hid h.G
  have R := Lib.hid h.R
  obtain ⟨s, rfl⟩ : ∃ s : Nat, a = (s : Int) := ⟨a.toNat, by omega⟩
  obtain ⟨-, q1, q2⟩ := h1
  have hlt := h.lt
  have hst := h.s2
  have hsz := h.z2
  have HD := Lib.hid (hdr_get B sz st)
  obtain ⟨p0, p1⟩ := plA_get (s : Int) b
  have P0 := Lib.hid p0
  have P1 := Lib.hid p1
  have PI := Lib.hid (plA_i (s : Int) b)
  obtain ⟨g0, g1⟩ := grC_get B st (itF c 0 (st * sz)).length
  have G0 := Lib.hid g0
  clear p0 p1 g0 g1 h
  generalize plA (s : Int) b = pc at *
  generalize grC B st (itF c 0 (st * sz)).length = gc at *
  have d1 : decide ((s : Int) < 0) = false := decide_eq_false (by omega)
  have d2 : decide ((s : Int) ≥ (st : Int)) = false := decide_eq_false (by omega)
  have d3 : decide ((st : Int) ≤ (s : Int)) = false := decide_eq_false (by omega)
  have d4 : decide (s ≥ st) = false := decide_eq_false (by omega)
  have d5 : decide (st ≤ s) = false := decide_eq_false (by omega)
  have d6 : decide (b ≥ 0) = false := decide_eq_false (by omega)
  have d7 : decide (0 ≤ b) = false := decide_eq_false (by omega)
  have hq := eqgI_some ⟨B + 1, 0, none⟩
  go_enter Try.func14, Try.ntmps14
  have hal := (Below.refl w.heap.size w).alloc (Nat.le_refl _) (.cells pc 30)
  replace K := Lib.hid (K.out.trans (hal.mono K.out.size))
  replace G := Lib.hid (G.out.below hal G.out.lt)
  replace R := Lib.hid (R.out.below hal R.out.lt)
  have P := Lib.hid (Blk.new w 30 pc)
  clear hal
  go_wp2_with fail
  have hzV1 : Hid ((w.alloc (.cells pc 30)).heap.size = w.heap.size + 1) := by show _ = _; simp only [World.size_alloc]
  generalize (w.alloc (.cells pc 30)) = V1 at *
  refine wp_region_held (S := (fun w' : World => Below (V1.heap.size) V1 w')) (by kernel_rfl) ?_
  change wpAnyH _ _ _ _ _ _ _ _ V1.drew
  have hy : Below V1.heap.size V1 V1.drew := (Below.refl _ _).drew
  have hE0 : Below (V1.heap.size) V1 V1.drew := (Below.refl _ _).drew
  clear hy
  generalize V1.drew = Y1x0 at hE0  ⊢
  have E0 := Lib.hid hE0
  clear hE0
  refine tkA 0 (?_) ?_ E0.out ?_
  rotate_left
  · (intro w1 hS; go_simp; try with_reducible rfl)
  simp only [Act.put, tS1, tS2, tS3]
  refine tkA 1 (?_) ?_ E0.out ?_
  rotate_left
  · (intro w1 hS; go_simp; try with_reducible rfl)
  simp only [Act.put, tS1, tS2, tS3]
  refine tkA 2 (?_) ?_ E0.out ?_
  rotate_left
  · (intro w1 hS; go_simp; try with_reducible rfl)
  simp only [Act.put, tS1, tS2, tS3]
  refine tkA 3 (?_) ?_ E0.out ?_
  rotate_left
  · (intro w1 hS; go_simp; try with_reducible rfl)
  simp only [Act.put, tS1, tS2, tS3]
  refine tkA 4 (?_) ?_ E0.out ?_
  rotate_left
  · (intro w1 hS; have hW := hS; have q := ((P.out.below hW P.out.lt).cell 0).trans P0.out; clear hW hS; go_simp; try with_reducible rfl)
  simp only [Act.put, tS1, tS2, tS3]
  refine tkA 5 (?_) ?_ E0.out ?_
  rotate_left
  · (intro w1 hS; go_simp; try with_reducible rfl)
  simp only [Act.put, tS1, tS2, tS3]
  refine tkA 6 (?_) ?_ E0.out ?_
  rotate_left
  · (intro w1 hS; go_simp; try with_reducible rfl)
  simp only [Act.put, tS1, tS2, tS3]
  refine tkA 7 (?_) ?_ E0.out ?_
  rotate_left
  · (intro w1 hS; go_simp; try with_reducible rfl)
  simp only [Act.put, tS1, tS2, tS3]
  refine tkA 8 (?_) ?_ E0.out ?_
  rotate_left
  · (intro w1 hS; go_simp; try with_reducible rfl)
  simp only [Act.put, tS1, tS2, tS3]
  refine tkA 9 (?_) ?_ E0.out ?_
  rotate_left
  · (intro w1 hS; have hW := hS; have q := ((P.out.below hW P.out.lt).cell 0).trans P0.out; clear hW hS; go_simp; try with_reducible rfl)
  simp only [Act.put, tS1, tS2, tS3]
  refine tkA 10 (?_) ?_ E0.out ?_
  rotate_left
  · (intro w1 hS; go_simp; try with_reducible rfl)
  simp only [Act.put, tS1, tS2, tS3]
  refine tkA 11 (?_) ?_ E0.out ?_
  rotate_left
  · (intro w1 hS; go_simp; try with_reducible rfl)
  simp only [Act.put, tS1, tS2, tS3]
  refine tkA 12 (?_) ?_ E0.out ?_
  rotate_left
  · (intro w1 hS; go_simp; try with_reducible rfl)
  simp only [Act.put, tS1, tS2, tS3]
  refine tkA 13 (?_) ?_ E0.out ?_
  rotate_left
  · (intro w1 hS; have hW := hS; have q := ((G.out.below hW G.out.lt).cell 0).trans G0.out; clear hW hS; go_simp; try with_reducible rfl)
  simp only [Act.put, tS1, tS2, tS3]
  refine tkA 14 (?_) ?_ E0.out ?_
  rotate_left
  · (intro w1 hS; go_simp; try with_reducible rfl)
  simp only [Act.put, tS1, tS2, tS3]
  refine tkA 15 (?_) ?_ E0.out ?_
  rotate_left
  · (intro w1 hS; go_simp; try with_reducible rfl)
  simp only [Act.put, tS1, tS2, tS3]
  refine tkA 16 (?_) ?_ E0.out ?_
  rotate_left
  · (intro w1 hS; go_simp; try with_reducible rfl)
  simp only [Act.put, tS1, tS2, tS3]
  refine wpAnyH_done (by kernel_rfl) ?_ _
  have hy := E0.out
  replace K := Lib.hid (K.out.trans (hy.mono K.out.size))
  replace G := Lib.hid (G.out.below hy G.out.lt)
  replace R := Lib.hid (R.out.below hy R.out.lt)
  replace P := Lib.hid (P.out.below hy P.out.lt)
  clear hy E0
  go_wp2_with fail
  refine wp_region_held (S := (fun w' : World => Below (Y1x0.heap.size) Y1x0 w')) (by kernel_rfl) ?_
  change wpAnyH _ _ _ _ _ _ _ _ Y1x0.drew
  have hy : Below Y1x0.heap.size Y1x0 Y1x0.drew := (Below.refl _ _).drew
  have hE0 : Below (Y1x0.heap.size) Y1x0 Y1x0.drew := (Below.refl _ _).drew
  clear hy
  generalize Y1x0.drew = Y3x0 at hE0  ⊢
  have E0 := Lib.hid hE0
  clear hE0
  refine tkA 0 (?_) ?_ E0.out ?_
  rotate_left
  · (intro w1 hS; go_simp; try with_reducible rfl)
  simp only [Act.put, tS1, tS2, tS3]
  refine tkA 1 (?_) ?_ E0.out ?_
  rotate_left
  · (intro w1 hS; have hW := hS; have q := ((P.out.below hW P.out.lt).cell 1).trans P1.out; clear hW hS; go_simp; try with_reducible rfl)
  simp only [Act.put, tS1, tS2, tS3]
  refine tkA 2 (?_) ?_ E0.out ?_
  rotate_left
  · (intro w1 hS; go_simp; try with_reducible rfl)
  simp only [Act.put, tS1, tS2, tS3]
  refine tkA 3 (?_) ?_ E0.out ?_
  rotate_left
  · (intro w1 hS; go_simp; try with_reducible rfl)
  simp only [Act.put, tS1, tS2, tS3]
  refine tkN 4 E0.out ?_
  simp only [Act.put, tS1, tS2, tS3]
  refine tkN 5 E0.out ?_
  simp only [Act.put, tS1, tS2, tS3]
  refine tkN 6 E0.out ?_
  simp only [Act.put, tS1, tS2, tS3]
  refine tkN 7 E0.out ?_
  simp only [Act.put, tS1, tS2, tS3]
  refine tkN 8 E0.out ?_
  simp only [Act.put, tS1, tS2, tS3]
  refine tkN 9 E0.out ?_
  simp only [Act.put, tS1, tS2, tS3]
  refine tkN 10 E0.out ?_
  simp only [Act.put, tS1, tS2, tS3]
  refine tkN 11 E0.out ?_
  simp only [Act.put, tS1, tS2, tS3]
  refine tkN 12 E0.out ?_
  simp only [Act.put, tS1, tS2, tS3]
  refine tkN 13 E0.out ?_
  simp only [Act.put, tS1, tS2, tS3]
  refine tkN 14 E0.out ?_
  simp only [Act.put, tS1, tS2, tS3]
  refine tkN 15 E0.out ?_
  simp only [Act.put, tS1, tS2, tS3]
  refine tkA 16 (?_) ?_ E0.out ?_
  rotate_left
  · (intro w1 hS; go_simp; try with_reducible rfl)
  simp only [Act.put, tS1, tS2, tS3]
  refine tkA 17 (?_) ?_ E0.out ?_
  rotate_left
  · (intro w1 hS; go_simp; try with_reducible rfl)
  simp only [Act.put, tS1, tS2, tS3]
  refine wpAnyH_done (by kernel_rfl) ?_ _
  have hy := E0.out
  replace K := Lib.hid (K.out.trans (hy.mono K.out.size))
  replace G := Lib.hid (G.out.below hy G.out.lt)
  replace R := Lib.hid (R.out.below hy R.out.lt)
  replace P := Lib.hid (P.out.below hy P.out.lt)
  clear hy E0
  go_wp2
  go_ret
  exact ⟨rfl, K.out⟩
set_option maxRecDepth 100000 in
set_option maxHeartbeats 4000000 in
theorem inI_bhi (B st sz : Nat) (c : Nat → Option Int) (a b : Int) (h1 : 0 ≤ a ∧ a < (st : Int) ∧ (sz : Int) ≤ b) (w : World) (h : GdI B st sz c w) :
    Calls Try.prog 14 #[.pointer (some ⟨B + 1, 0, none⟩), .agg (plA a b)] w fun e w' => e = .returned (.bool false) ∧ Below w.heap.size w w' := by
  have K := Lib.hid (Below.refl w.heap.size w)
  have G := Lib.hid h.G
  have R := Lib.hid h.R
  obtain ⟨s, rfl⟩ : ∃ s : Nat, a = (s : Int) := ⟨a.toNat, by omega⟩
  obtain ⟨-, q1, q3⟩ := h1
  have hlt := h.lt
  have hst := h.s2
  have hsz := h.z2
  have HD := Lib.hid (hdr_get B sz st)
  obtain ⟨p0, p1⟩ := plA_get (s : Int) b
  have P0 := Lib.hid p0
  have P1 := Lib.hid p1
  have PI := Lib.hid (plA_i (s : Int) b)
  obtain ⟨g0, g1⟩ := grC_get B st (itF c 0 (st * sz)).length
  have G0 := Lib.hid g0
  clear p0 p1 g0 g1 h
  generalize plA (s : Int) b = pc at *
  generalize grC B st (itF c 0 (st * sz)).length = gc at *
  have d1 : decide ((s : Int) < 0) = false := decide_eq_false (by omega)
  have d2 : decide ((s : Int) ≥ (st : Int)) = false := decide_eq_false (by omega)
  have d3 : decide ((st : Int) ≤ (s : Int)) = false := decide_eq_false (by omega)
  have d4 : decide (s ≥ st) = false := decide_eq_false (by omega)
  have d5 : decide (st ≤ s) = false := decide_eq_false (by omega)
  have d6 : decide (b ≥ 0) = true := decide_eq_true (by omega)
  have d7 : decide (0 ≤ b) = true := decide_eq_true (by omega)
  have d8 : decide (b < (sz : Int)) = false := decide_eq_false (by omega)
  have hs0 : 0 ≤ (s : Int) ∧ (s : Int) < (st : Int) := by omega
  have hs1 : s < st := by omega
  have hq := eqgI_some ⟨B + 1, 0, none⟩
  go_enter Try.func14, Try.ntmps14
  have hal := (Below.refl w.heap.size w).alloc (Nat.le_refl _) (.cells pc 30)
  replace K := Lib.hid (K.out.trans (hal.mono K.out.size))
  replace G := Lib.hid (G.out.below hal G.out.lt)
  replace R := Lib.hid (R.out.below hal R.out.lt)
  have P := Lib.hid (Blk.new w 30 pc)
  clear hal
  go_wp2_with fail
  have hzV1 : Hid ((w.alloc (.cells pc 30)).heap.size = w.heap.size + 1) := by show _ = _; simp only [World.size_alloc]
  generalize (w.alloc (.cells pc 30)) = V1 at *
  refine wp_region_held (S := (fun w' : World => Below (V1.heap.size) V1 w')) (by kernel_rfl) ?_
  change wpAnyH _ _ _ _ _ _ _ _ V1.drew
  have hy : Below V1.heap.size V1 V1.drew := (Below.refl _ _).drew
  have hE0 : Below (V1.heap.size) V1 V1.drew := (Below.refl _ _).drew
  clear hy
  generalize V1.drew = Y1x0 at hE0  ⊢
  have E0 := Lib.hid hE0
  clear hE0
  refine tkA 0 (?_) ?_ E0.out ?_
  rotate_left
  · (intro w1 hS; go_simp; try with_reducible rfl)
  simp only [Act.put, tS1, tS2, tS3]
  refine tkA 1 (?_) ?_ E0.out ?_
  rotate_left
  · (intro w1 hS; go_simp; try with_reducible rfl)
  simp only [Act.put, tS1, tS2, tS3]
  refine tkA 2 (?_) ?_ E0.out ?_
  rotate_left
  · (intro w1 hS; go_simp; try with_reducible rfl)
  simp only [Act.put, tS1, tS2, tS3]
  refine tkA 3 (?_) ?_ E0.out ?_
  rotate_left
  · (intro w1 hS; go_simp; try with_reducible rfl)
  simp only [Act.put, tS1, tS2, tS3]
  refine tkA 4 (?_) ?_ E0.out ?_
  rotate_left
  · (intro w1 hS; have hW := hS; have q := ((P.out.below hW P.out.lt).cell 0).trans P0.out; clear hW hS; go_simp; try with_reducible rfl)
  simp only [Act.put, tS1, tS2, tS3]
  refine tkA 5 (?_) ?_ E0.out ?_
  rotate_left
  · (intro w1 hS; go_simp; try with_reducible rfl)
  simp only [Act.put, tS1, tS2, tS3]
  refine tkA 6 (?_) ?_ E0.out ?_
  rotate_left
  · (intro w1 hS; go_simp; try with_reducible rfl)
  simp only [Act.put, tS1, tS2, tS3]
  refine tkA 7 (?_) ?_ E0.out ?_
  rotate_left
  · (intro w1 hS; go_simp; try with_reducible rfl)
  simp only [Act.put, tS1, tS2, tS3]
  refine tkA 8 (?_) ?_ E0.out ?_
  rotate_left
  · (intro w1 hS; go_simp; try with_reducible rfl)
  simp only [Act.put, tS1, tS2, tS3]
  refine tkA 9 (?_) ?_ E0.out ?_
  rotate_left
  · (intro w1 hS; have hW := hS; have q := ((P.out.below hW P.out.lt).cell 0).trans P0.out; clear hW hS; go_simp; try with_reducible rfl)
  simp only [Act.put, tS1, tS2, tS3]
  refine tkA 10 (?_) ?_ E0.out ?_
  rotate_left
  · (intro w1 hS; go_simp; try with_reducible rfl)
  simp only [Act.put, tS1, tS2, tS3]
  refine tkA 11 (?_) ?_ E0.out ?_
  rotate_left
  · (intro w1 hS; go_simp; try with_reducible rfl)
  simp only [Act.put, tS1, tS2, tS3]
  refine tkA 12 (?_) ?_ E0.out ?_
  rotate_left
  · (intro w1 hS; go_simp; try with_reducible rfl)
  simp only [Act.put, tS1, tS2, tS3]
  refine tkA 13 (?_) ?_ E0.out ?_
  rotate_left
  · (intro w1 hS; have hW := hS; have q := ((G.out.below hW G.out.lt).cell 0).trans G0.out; clear hW hS; go_simp; try with_reducible rfl)
  simp only [Act.put, tS1, tS2, tS3]
  refine tkA 14 (?_) ?_ E0.out ?_
  rotate_left
  · (intro w1 hS; go_simp; try with_reducible rfl)
  simp only [Act.put, tS1, tS2, tS3]
  refine tkA 15 (?_) ?_ E0.out ?_
  rotate_left
  · (intro w1 hS; go_simp; try with_reducible rfl)
  simp only [Act.put, tS1, tS2, tS3]
  refine tkA 16 (?_) ?_ E0.out ?_
  rotate_left
  · (intro w1 hS; go_simp; try with_reducible rfl)
  simp only [Act.put, tS1, tS2, tS3]
  refine wpAnyH_done (by kernel_rfl) ?_ _
  have hy := E0.out
  replace K := Lib.hid (K.out.trans (hy.mono K.out.size))
  replace G := Lib.hid (G.out.below hy G.out.lt)
  replace R := Lib.hid (R.out.below hy R.out.lt)
  replace P := Lib.hid (P.out.below hy P.out.lt)
  clear hy E0
  go_wp2_with fail
  refine wp_region_held (S := (fun w' : World => Below (Y1x0.heap.size) Y1x0 w')) (by kernel_rfl) ?_
  change wpAnyH _ _ _ _ _ _ _ _ Y1x0.drew
  have hy : Below Y1x0.heap.size Y1x0 Y1x0.drew := (Below.refl _ _).drew
  have hE0 : Below (Y1x0.heap.size) Y1x0 Y1x0.drew := (Below.refl _ _).drew
  clear hy
  generalize Y1x0.drew = Y3x0 at hE0  ⊢
  have E0 := Lib.hid hE0
  clear hE0
  refine tkA 0 (?_) ?_ E0.out ?_
  rotate_left
  · (intro w1 hS; go_simp; try with_reducible rfl)
  simp only [Act.put, tS1, tS2, tS3]
  refine tkA 1 (?_) ?_ E0.out ?_
  rotate_left
  · (intro w1 hS; have hW := hS; have q := ((P.out.below hW P.out.lt).cell 1).trans P1.out; clear hW hS; go_simp; try with_reducible rfl)
  simp only [Act.put, tS1, tS2, tS3]
  refine tkA 2 (?_) ?_ E0.out ?_
  rotate_left
  · (intro w1 hS; go_simp; try with_reducible rfl)
  simp only [Act.put, tS1, tS2, tS3]
  refine tkA 3 (?_) ?_ E0.out ?_
  rotate_left
  · (intro w1 hS; go_simp; try with_reducible rfl)
  simp only [Act.put, tS1, tS2, tS3]
  refine tkA 4 (?_) ?_ E0.out ?_
  rotate_left
  · (intro w1 hS; go_simp; try with_reducible rfl)
  simp only [Act.put, tS1, tS2, tS3]
  refine tkA 5 (?_) ?_ E0.out ?_
  rotate_left
  · (intro w1 hS; have hW := hS; have q := ((P.out.below hW P.out.lt).cell 1).trans P1.out; clear hW hS; go_simp; try with_reducible rfl)
  simp only [Act.put, tS1, tS2, tS3]
  refine tkA 6 (?_) ?_ E0.out ?_
  rotate_left
  · (intro w1 hS; go_simp; try with_reducible rfl)
  simp only [Act.put, tS1, tS2, tS3]
  refine tkA 7 (?_) ?_ E0.out ?_
  rotate_left
  · (intro w1 hS; go_simp; try with_reducible rfl)
  simp only [Act.put, tS1, tS2, tS3]
  refine tkA 8 (?_) ?_ E0.out ?_
  rotate_left
  · (intro w1 hS; go_simp; try with_reducible rfl)
  simp only [Act.put, tS1, tS2, tS3]
  refine tkA 9 (?_) ?_ E0.out ?_
  rotate_left
  · (intro w1 hS; have hW := hS; have q := ((G.out.below hW G.out.lt).cell 0).trans G0.out; clear hW hS; go_simp; try with_reducible rfl)
  simp only [Act.put, tS1, tS2, tS3]
  refine tkA 10 (?_) ?_ E0.out ?_
  rotate_left
  · (intro w1 hS; go_simp; try with_reducible rfl)
  simp only [Act.put, tS1, tS2, tS3]
  refine tkA 11 (?_) ?_ E0.out ?_
  rotate_left
  · (intro w1 hS; have hW := hS; have q := ((P.out.below hW P.out.lt).cell 0).trans P0.out; clear hW hS; go_simp; try with_reducible rfl)
  simp only [Act.put, tS1, tS2, tS3]
  refine tkA 12 (?_) ?_ E0.out ?_
  rotate_left
  · (intro w1 hS; go_simp; try with_reducible rfl)
  simp only [Act.put, tS1, tS2, tS3]
  refine tkA 13 (?_) ?_ E0.out ?_
  rotate_left
  · (intro w1 hS; have hW := hS; have q := ((R.out.below hW R.out.lt).cell s).trans (HD.out s hs1); clear hW hS; go_simp; try with_reducible rfl)
  simp only [Act.put, tS1, tS2, tS3]
  refine tkA 14 (?_) ?_ E0.out ?_
  rotate_left
  · (intro w1 hS; go_simp; try with_reducible rfl)
  simp only [Act.put, tS1, tS2, tS3]
  refine tkA 15 (?_) ?_ E0.out ?_
  rotate_left
  · (intro w1 hS; go_simp; try with_reducible rfl)
  simp only [Act.put, tS1, tS2, tS3]
  refine tkA 16 (?_) ?_ E0.out ?_
  rotate_left
  · (intro w1 hS; go_simp; try with_reducible rfl)
  simp only [Act.put, tS1, tS2, tS3]
  refine tkA 17 (?_) ?_ E0.out ?_
  rotate_left
  · (intro w1 hS; go_simp; try with_reducible rfl)
  simp only [Act.put, tS1, tS2, tS3]
  refine wpAnyH_done (by kernel_rfl) ?_ _
  have hy := E0.out
  replace K := Lib.hid (K.out.trans (hy.mono K.out.size))
  replace G := Lib.hid (G.out.below hy G.out.lt)
  replace R := Lib.hid (R.out.below hy R.out.lt)
  replace P := Lib.hid (P.out.below hy P.out.lt)
  clear hy E0
  go_wp2
  go_ret
  exact ⟨rfl, K.out⟩
set_option maxRecDepth 100000 in
set_option maxHeartbeats 4000000 in
theorem inI_yes (B st sz : Nat) (c : Nat → Option Int) (a b : Int) (h1 : inP st sz a b) (w : World) (h : GdI B st sz c w) :
    Calls Try.prog 14 #[.pointer (some ⟨B + 1, 0, none⟩), .agg (plA a b)] w fun e w' => e = .returned (.bool true) ∧ Below w.heap.size w w' := by
  have K := Lib.hid (Below.refl w.heap.size w)
  have G := Lib.hid h.G
  have R := Lib.hid h.R
  obtain ⟨s, rfl⟩ : ∃ s : Nat, a = (s : Int) := ⟨a.toNat, by obtain ⟨q1, q2, q3, q4⟩ := h1; omega⟩
  obtain ⟨-, q1, q2, q3⟩ := h1
  have hlt := h.lt
  have hst := h.s2
  have hsz := h.z2
  have HD := Lib.hid (hdr_get B sz st)
  obtain ⟨p0, p1⟩ := plA_get (s : Int) b
  have P0 := Lib.hid p0
  have P1 := Lib.hid p1
  have PI := Lib.hid (plA_i (s : Int) b)
  obtain ⟨g0, g1⟩ := grC_get B st (itF c 0 (st * sz)).length
  have G0 := Lib.hid g0
  clear p0 p1 g0 g1 h
  generalize plA (s : Int) b = pc at *
  generalize grC B st (itF c 0 (st * sz)).length = gc at *
  have d1 : decide ((s : Int) < 0) = false := decide_eq_false (by omega)
  have d2 : decide ((s : Int) ≥ (st : Int)) = false := decide_eq_false (by omega)
  have d3 : decide ((st : Int) ≤ (s : Int)) = false := decide_eq_false (by omega)
  have d4 : decide (s ≥ st) = false := decide_eq_false (by omega)
  have d5 : decide (st ≤ s) = false := decide_eq_false (by omega)
  have d6 : decide (b ≥ 0) = true := decide_eq_true (by omega)
  have d7 : decide (0 ≤ b) = true := decide_eq_true (by omega)
  have d8 : decide (b < (sz : Int)) = true := decide_eq_true (by omega)
  have hs0 : 0 ≤ (s : Int) ∧ (s : Int) < (st : Int) := by omega
  have hs1 : s < st := by omega
  have hq := eqgI_some ⟨B + 1, 0, none⟩
  go_enter Try.func14, Try.ntmps14
  have hal := (Below.refl w.heap.size w).alloc (Nat.le_refl _) (.cells pc 30)
  replace K := Lib.hid (K.out.trans (hal.mono K.out.size))
  replace G := Lib.hid (G.out.below hal G.out.lt)
  replace R := Lib.hid (R.out.below hal R.out.lt)
  have P := Lib.hid (Blk.new w 30 pc)
  clear hal
  go_wp2_with fail
  have hzV1 : Hid ((w.alloc (.cells pc 30)).heap.size = w.heap.size + 1) := by show _ = _; simp only [World.size_alloc]
  generalize (w.alloc (.cells pc 30)) = V1 at *
  refine wp_region_held (S := (fun w' : World => Below (V1.heap.size) V1 w')) (by kernel_rfl) ?_
  change wpAnyH _ _ _ _ _ _ _ _ V1.drew
  have hy : Below V1.heap.size V1 V1.drew := (Below.refl _ _).drew
  have hE0 : Below (V1.heap.size) V1 V1.drew := (Below.refl _ _).drew
  clear hy
  generalize V1.drew = Y1x0 at hE0  ⊢
  have E0 := Lib.hid hE0
  clear hE0
  refine tkA 0 (?_) ?_ E0.out ?_
  rotate_left
  · (intro w1 hS; go_simp; try with_reducible rfl)
  simp only [Act.put, tS1, tS2, tS3]
  refine tkA 1 (?_) ?_ E0.out ?_
  rotate_left
  · (intro w1 hS; go_simp; try with_reducible rfl)
  simp only [Act.put, tS1, tS2, tS3]
  refine tkA 2 (?_) ?_ E0.out ?_
  rotate_left
  · (intro w1 hS; go_simp; try with_reducible rfl)
  simp only [Act.put, tS1, tS2, tS3]
  refine tkA 3 (?_) ?_ E0.out ?_
  rotate_left
  · (intro w1 hS; go_simp; try with_reducible rfl)
  simp only [Act.put, tS1, tS2, tS3]
  refine tkA 4 (?_) ?_ E0.out ?_
  rotate_left
  · (intro w1 hS; have hW := hS; have q := ((P.out.below hW P.out.lt).cell 0).trans P0.out; clear hW hS; go_simp; try with_reducible rfl)
  simp only [Act.put, tS1, tS2, tS3]
  refine tkA 5 (?_) ?_ E0.out ?_
  rotate_left
  · (intro w1 hS; go_simp; try with_reducible rfl)
  simp only [Act.put, tS1, tS2, tS3]
  refine tkA 6 (?_) ?_ E0.out ?_
  rotate_left
  · (intro w1 hS; go_simp; try with_reducible rfl)
  simp only [Act.put, tS1, tS2, tS3]
  refine tkA 7 (?_) ?_ E0.out ?_
  rotate_left
  · (intro w1 hS; go_simp; try with_reducible rfl)
  simp only [Act.put, tS1, tS2, tS3]
  refine tkA 8 (?_) ?_ E0.out ?_
  rotate_left
  · (intro w1 hS; go_simp; try with_reducible rfl)
  simp only [Act.put, tS1, tS2, tS3]
  refine tkA 9 (?_) ?_ E0.out ?_
  rotate_left
  · (intro w1 hS; have hW := hS; have q := ((P.out.below hW P.out.lt).cell 0).trans P0.out; clear hW hS; go_simp; try with_reducible rfl)
  simp only [Act.put, tS1, tS2, tS3]
  refine tkA 10 (?_) ?_ E0.out ?_
  rotate_left
  · (intro w1 hS; go_simp; try with_reducible rfl)
  simp only [Act.put, tS1, tS2, tS3]
  refine tkA 11 (?_) ?_ E0.out ?_
  rotate_left
  · (intro w1 hS; go_simp; try with_reducible rfl)
  simp only [Act.put, tS1, tS2, tS3]
  refine tkA 12 (?_) ?_ E0.out ?_
  rotate_left
  · (intro w1 hS; go_simp; try with_reducible rfl)
  simp only [Act.put, tS1, tS2, tS3]
  refine tkA 13 (?_) ?_ E0.out ?_
  rotate_left
  · (intro w1 hS; have hW := hS; have q := ((G.out.below hW G.out.lt).cell 0).trans G0.out; clear hW hS; go_simp; try with_reducible rfl)
  simp only [Act.put, tS1, tS2, tS3]
  refine tkA 14 (?_) ?_ E0.out ?_
  rotate_left
  · (intro w1 hS; go_simp; try with_reducible rfl)
  simp only [Act.put, tS1, tS2, tS3]
  refine tkA 15 (?_) ?_ E0.out ?_
  rotate_left
  · (intro w1 hS; go_simp; try with_reducible rfl)
  simp only [Act.put, tS1, tS2, tS3]
  refine tkA 16 (?_) ?_ E0.out ?_
  rotate_left
  · (intro w1 hS; go_simp; try with_reducible rfl)
  simp only [Act.put, tS1, tS2, tS3]
  refine wpAnyH_done (by kernel_rfl) ?_ _
  have hy := E0.out
  replace K := Lib.hid (K.out.trans (hy.mono K.out.size))
  replace G := Lib.hid (G.out.below hy G.out.lt)
  replace R := Lib.hid (R.out.below hy R.out.lt)
  replace P := Lib.hid (P.out.below hy P.out.lt)
  clear hy E0
  go_wp2_with fail
  refine wp_region_held (S := (fun w' : World => Below (Y1x0.heap.size) Y1x0 w')) (by kernel_rfl) ?_
  change wpAnyH _ _ _ _ _ _ _ _ Y1x0.drew
  have hy : Below Y1x0.heap.size Y1x0 Y1x0.drew := (Below.refl _ _).drew
  have hE0 : Below (Y1x0.heap.size) Y1x0 Y1x0.drew := (Below.refl _ _).drew
  clear hy
  generalize Y1x0.drew = Y3x0 at hE0  ⊢
  have E0 := Lib.hid hE0
  clear hE0
  refine tkA 0 (?_) ?_ E0.out ?_
  rotate_left
  · (intro w1 hS; go_simp; try with_reducible rfl)
  simp only [Act.put, tS1, tS2, tS3]
  refine tkA 1 (?_) ?_ E0.out ?_
  rotate_left
  · (intro w1 hS; have hW := hS; have q := ((P.out.below hW P.out.lt).cell 1).trans P1.out; clear hW hS; go_simp; try with_reducible rfl)
  simp only [Act.put, tS1, tS2, tS3]
  refine tkA 2 (?_) ?_ E0.out ?_
  rotate_left
  · (intro w1 hS; go_simp; try with_reducible rfl)
  simp only [Act.put, tS1, tS2, tS3]
  refine tkA 3 (?_) ?_ E0.out ?_
  rotate_left
  · (intro w1 hS; go_simp; try with_reducible rfl)
  simp only [Act.put, tS1, tS2, tS3]
  refine tkA 4 (?_) ?_ E0.out ?_
  rotate_left
  · (intro w1 hS; go_simp; try with_reducible rfl)
  simp only [Act.put, tS1, tS2, tS3]
  refine tkA 5 (?_) ?_ E0.out ?_
  rotate_left
  · (intro w1 hS; have hW := hS; have q := ((P.out.below hW P.out.lt).cell 1).trans P1.out; clear hW hS; go_simp; try with_reducible rfl)
  simp only [Act.put, tS1, tS2, tS3]
  refine tkA 6 (?_) ?_ E0.out ?_
  rotate_left
  · (intro w1 hS; go_simp; try with_reducible rfl)
  simp only [Act.put, tS1, tS2, tS3]
  refine tkA 7 (?_) ?_ E0.out ?_
  rotate_left
  · (intro w1 hS; go_simp; try with_reducible rfl)
  simp only [Act.put, tS1, tS2, tS3]
  refine tkA 8 (?_) ?_ E0.out ?_
  rotate_left
  · (intro w1 hS; go_simp; try with_reducible rfl)
  simp only [Act.put, tS1, tS2, tS3]
  refine tkA 9 (?_) ?_ E0.out ?_
  rotate_left
  · (intro w1 hS; have hW := hS; have q := ((G.out.below hW G.out.lt).cell 0).trans G0.out; clear hW hS; go_simp; try with_reducible rfl)
  simp only [Act.put, tS1, tS2, tS3]
  refine tkA 10 (?_) ?_ E0.out ?_
  rotate_left
  · (intro w1 hS; go_simp; try with_reducible rfl)
  simp only [Act.put, tS1, tS2, tS3]
  refine tkA 11 (?_) ?_ E0.out ?_
  rotate_left
  · (intro w1 hS; have hW := hS; have q := ((P.out.below hW P.out.lt).cell 0).trans P0.out; clear hW hS; go_simp; try with_reducible rfl)
  simp only [Act.put, tS1, tS2, tS3]
  refine tkA 12 (?_) ?_ E0.out ?_
  rotate_left
  · (intro w1 hS; go_simp; try with_reducible rfl)
  simp only [Act.put, tS1, tS2, tS3]
  refine tkA 13 (?_) ?_ E0.out ?_
  rotate_left
  · (intro w1 hS; have hW := hS; have q := ((R.out.below hW R.out.lt).cell s).trans (HD.out s hs1); clear hW hS; go_simp; try with_reducible rfl)
  simp only [Act.put, tS1, tS2, tS3]
  refine tkA 14 (?_) ?_ E0.out ?_
  rotate_left
  · (intro w1 hS; go_simp; try with_reducible rfl)
  simp only [Act.put, tS1, tS2, tS3]
  refine tkA 15 (?_) ?_ E0.out ?_
  rotate_left
  · (intro w1 hS; go_simp; try with_reducible rfl)
  simp only [Act.put, tS1, tS2, tS3]
  refine tkA 16 (?_) ?_ E0.out ?_
  rotate_left
  · (intro w1 hS; go_simp; try with_reducible rfl)
  simp only [Act.put, tS1, tS2, tS3]
  refine tkA 17 (?_) ?_ E0.out ?_
  rotate_left
  · (intro w1 hS; go_simp; try with_reducible rfl)
  simp only [Act.put, tS1, tS2, tS3]
  refine wpAnyH_done (by kernel_rfl) ?_ _
  have hy := E0.out
  replace K := Lib.hid (K.out.trans (hy.mono K.out.size))
  replace G := Lib.hid (G.out.below hy G.out.lt)
  replace R := Lib.hid (R.out.below hy R.out.lt)
  replace P := Lib.hid (P.out.below hy P.out.lt)
  clear hy E0
  go_wp2
  go_ret
  exact ⟨rfl, K.out⟩
theorem inI_any (B st sz : Nat) (c : Nat → Option Int) (a b : Int) (w : World) (h : GdI B st sz c w) :
    Calls Try.prog 14 #[.pointer (some ⟨B + 1, 0, none⟩), .agg (plA a b)] w fun e w' => e = .returned (.bool (decide (inP st sz a b))) ∧ Below w.heap.size w w' := by
  by_cases hy : inP st sz a b
  · rw [decide_eq_true hy]; exact inI_yes B st sz c a b hy w h
  · rw [decide_eq_false hy]
    unfold inP at hy
    by_cases h1 : a < 0
    · exact inI_lo B st sz c a b h1 w h
    by_cases h2 : (st : Int) ≤ a
    · exact inI_hi B st sz c a b ⟨by omega, h2⟩ w h
    by_cases h3 : b < 0
    · exact inI_blo B st sz c a b ⟨by omega, by omega, h3⟩ w h
    · exact inI_bhi B st sz c a b ⟨by omega, by omega, by omega⟩ w h
set_option maxRecDepth 100000 in
set_option maxHeartbeats 4000000 in
theorem inA_lo (B st sz : Nat) (c : Nat → Option (Int × Int)) (a b : Int) (h1 : a < 0) (w : World) (h : GdA B st sz c w) :
    Calls Try.prog 35 #[.pointer (some ⟨B + 1, 0, none⟩), .agg (plA a b)] w fun e w' => e = .returned (.bool false) ∧ Below w.heap.size w w' := by
  have K := Lib.hid (Below.refl w.heap.size w)
  have G := Lib.hid h.G
  have R := Lib.hid h.R
  have hlt := h.lt
  have hst := h.s2
  have hsz := h.z2
  have HD := Lib.hid (hdr_get B sz st)
  obtain ⟨p0, p1⟩ := plA_get a b
  have P0 := Lib.hid p0
  have P1 := Lib.hid p1
  have PI := Lib.hid (plA_i a b)
  obtain ⟨g0, g1⟩ := grC_get B st (itF c 0 (st * sz)).length
  have G0 := Lib.hid g0
  clear p0 p1 g0 g1 h
  generalize plA a b = pc at *
  generalize grC B st (itF c 0 (st * sz)).length = gc at *
  have d1 : decide (a < 0) = true := decide_eq_true h1
  have hq := eqgA_some ⟨B + 1, 0, none⟩
  go_enter Try.func35, Try.ntmps35
  have hal := (Below.refl w.heap.size w).alloc (Nat.le_refl _) (.cells pc 30)
  replace K := Lib.hid (K.out.trans (hal.mono K.out.size))
  replace G := Lib.hid (G.out.below hal G.out.lt)
  replace R := Lib.hid (R.out.below hal R.out.lt)
  have P := Lib.hid (Blk.new w 30 pc)
  clear hal
  go_wp2_with fail
  have hzV1 : Hid ((w.alloc (.cells pc 30)).heap.size = w.heap.size + 1) := by show _ = _; simp only [World.size_alloc]
  generalize (w.alloc (.cells pc 30)) = V1 at *
  refine wp_region_held (S := (fun w' : World => Below (V1.heap.size) V1 w')) (by kernel_rfl) ?_
  change wpAnyH _ _ _ _ _ _ _ _ V1.drew
  have hy : Below V1.heap.size V1 V1.drew := (Below.refl _ _).drew
  have hE0 : Below (V1.heap.size) V1 V1.drew := (Below.refl _ _).drew
  clear hy
  generalize V1.drew = Y1x0 at hE0  ⊢
  have E0 := Lib.hid hE0
  clear hE0
  refine tkA 0 (?_) ?_ E0.out ?_
  rotate_left
  · (intro w1 hS; go_simp; try with_reducible rfl)
  simp only [Act.put, tS1, tS2, tS3]
  refine tkA 1 (?_) ?_ E0.out ?_
  rotate_left
  · (intro w1 hS; go_simp; try with_reducible rfl)
  simp only [Act.put, tS1, tS2, tS3]
  refine tkA 2 (?_) ?_ E0.out ?_
  rotate_left
  · (intro w1 hS; go_simp; try with_reducible rfl)
  simp only [Act.put, tS1, tS2, tS3]
  refine tkA 3 (?_) ?_ E0.out ?_
  rotate_left
  · (intro w1 hS; go_simp; try with_reducible rfl)
  simp only [Act.put, tS1, tS2, tS3]
  refine tkA 4 (?_) ?_ E0.out ?_
  rotate_left
  · (intro w1 hS; have hW := hS; have q := ((P.out.below hW P.out.lt).cell 0).trans P0.out; clear hW hS; go_simp; try with_reducible rfl)
  simp only [Act.put, tS1, tS2, tS3]
  refine tkA 5 (?_) ?_ E0.out ?_
  rotate_left
  · (intro w1 hS; go_simp; try with_reducible rfl)
  simp only [Act.put, tS1, tS2, tS3]
  refine tkA 6 (?_) ?_ E0.out ?_
  rotate_left
  · (intro w1 hS; go_simp; try with_reducible rfl)
  simp only [Act.put, tS1, tS2, tS3]
  refine tkA 7 (?_) ?_ E0.out ?_
  rotate_left
  · (intro w1 hS; go_simp; try with_reducible rfl)
  simp only [Act.put, tS1, tS2, tS3]
  refine tkN 8 E0.out ?_
  simp only [Act.put, tS1, tS2, tS3]
  refine tkN 9 E0.out ?_
  simp only [Act.put, tS1, tS2, tS3]
  refine tkN 10 E0.out ?_
  simp only [Act.put, tS1, tS2, tS3]
  refine tkN 11 E0.out ?_
  simp only [Act.put, tS1, tS2, tS3]
  refine tkN 12 E0.out ?_
  simp only [Act.put, tS1, tS2, tS3]
  refine tkN 13 E0.out ?_
  simp only [Act.put, tS1, tS2, tS3]
  refine tkN 14 E0.out ?_
  simp only [Act.put, tS1, tS2, tS3]
  refine tkN 15 E0.out ?_
  simp only [Act.put, tS1, tS2, tS3]
  refine tkA 16 (?_) ?_ E0.out ?_
  rotate_left
  · (intro w1 hS; go_simp; try with_reducible rfl)
  simp only [Act.put, tS1, tS2, tS3]
  refine wpAnyH_done (by kernel_rfl) ?_ _
  have hy := E0.out
  replace K := Lib.hid (K.out.trans (hy.mono K.out.size))
  replace G := Lib.hid (G.out.below hy G.out.lt)
  replace R := Lib.hid (R.out.below hy R.out.lt)
  replace P := Lib.hid (P.out.below hy P.out.lt)
  clear hy E0
  go_wp2
  go_ret
  exact ⟨rfl, K.out⟩
set_option maxRecDepth 100000 in
set_option maxHeartbeats 4000000 in
theorem inA_hi (B st sz : Nat) (c : Nat → Option (Int × Int)) (a b : Int) (h1 : 0 ≤ a ∧ (st : Int) ≤ a) (w : World) (h : GdA B st sz c w) :
    Calls Try.prog 35 #[.pointer (some ⟨B + 1, 0, none⟩), .agg (plA a b)] w fun e w' => e = .returned (.bool false) ∧ Below w.heap.size w w' := by
  have K := Lib.hid (Below.refl w.heap.size w)
  have G := Lib.hid h.G
  have R := Lib.hid h.R
  have hlt := h.lt
  have hst := h.s2
  have hsz := h.z2
  have HD := Lib.hid (hdr_get B sz st)
  obtain ⟨p0, p1⟩ := plA_get a b
  have P0 := Lib.hid p0
  have P1 := Lib.hid p1
  have PI := Lib.hid (plA_i a b)
  obtain ⟨g0, g1⟩ := grC_get B st (itF c 0 (st * sz)).length
  have G0 := Lib.hid g0
  clear p0 p1 g0 g1 h
  generalize plA a b = pc at *
  generalize grC B st (itF c 0 (st * sz)).length = gc at *
  obtain ⟨q1, q2⟩ := h1
  have d1 : decide (a < 0) = false := decide_eq_false (by omega)
  have d2 : decide (a ≥ (st : Int)) = true := decide_eq_true (by omega)
  have d3 : decide ((st : Int) ≤ a) = true := decide_eq_true (by omega)
  have hq := eqgA_some ⟨B + 1, 0, none⟩
  go_enter Try.func35, Try.ntmps35
  have hal := (Below.refl w.heap.size w).alloc (Nat.le_refl _) (.cells pc 30)
  replace K := Lib.hid (K.out.trans (hal.mono K.out.size))
  replace G := Lib.hid (G.out.below hal G.out.lt)
  replace R := Lib.hid (R.out.below hal R.out.lt)
  have P := Lib.hid (Blk.new w 30 pc)
  clear hal
  go_wp2_with fail
  have hzV1 : Hid ((w.alloc (.cells pc 30)).heap.size = w.heap.size + 1) := by show _ = _; simp only [World.size_alloc]
  generalize (w.alloc (.cells pc 30)) = V1 at *
  refine wp_region_held (S := (fun w' : World => Below (V1.heap.size) V1 w')) (by kernel_rfl) ?_
  change wpAnyH _ _ _ _ _ _ _ _ V1.drew
  have hy : Below V1.heap.size V1 V1.drew := (Below.refl _ _).drew
  have hE0 : Below (V1.heap.size) V1 V1.drew := (Below.refl _ _).drew
  clear hy
  generalize V1.drew = Y1x0 at hE0  ⊢
  have E0 := Lib.hid hE0
  clear hE0
  refine tkA 0 (?_) ?_ E0.out ?_
  rotate_left
  · (intro w1 hS; go_simp; try with_reducible rfl)
  simp only [Act.put, tS1, tS2, tS3]
  refine tkA 1 (?_) ?_ E0.out ?_
  rotate_left
  · (intro w1 hS; go_simp; try with_reducible rfl)
  simp only [Act.put, tS1, tS2, tS3]
  refine tkA 2 (?_) ?_ E0.out ?_
  rotate_left
  · (intro w1 hS; go_simp; try with_reducible rfl)
  simp only [Act.put, tS1, tS2, tS3]
  refine tkA 3 (?_) ?_ E0.out ?_
  rotate_left
  · (intro w1 hS; go_simp; try with_reducible rfl)
  simp only [Act.put, tS1, tS2, tS3]
  refine tkA 4 (?_) ?_ E0.out ?_
  rotate_left
  · (intro w1 hS; have hW := hS; have q := ((P.out.below hW P.out.lt).cell 0).trans P0.out; clear hW hS; go_simp; try with_reducible rfl)
  simp only [Act.put, tS1, tS2, tS3]
  refine tkA 5 (?_) ?_ E0.out ?_
  rotate_left
  · (intro w1 hS; go_simp; try with_reducible rfl)
  simp only [Act.put, tS1, tS2, tS3]
  refine tkA 6 (?_) ?_ E0.out ?_
  rotate_left
  · (intro w1 hS; go_simp; try with_reducible rfl)
  simp only [Act.put, tS1, tS2, tS3]
  refine tkA 7 (?_) ?_ E0.out ?_
  rotate_left
  · (intro w1 hS; go_simp; try with_reducible rfl)
  simp only [Act.put, tS1, tS2, tS3]
  refine tkA 8 (?_) ?_ E0.out ?_
  rotate_left
  · (intro w1 hS; go_simp; try with_reducible rfl)
  simp only [Act.put, tS1, tS2, tS3]
  refine tkA 9 (?_) ?_ E0.out ?_
  rotate_left
  · (intro w1 hS; have hW := hS; have q := ((P.out.below hW P.out.lt).cell 0).trans P0.out; clear hW hS; go_simp; try with_reducible rfl)
  simp only [Act.put, tS1, tS2, tS3]
  refine tkA 10 (?_) ?_ E0.out ?_
  rotate_left
  · (intro w1 hS; go_simp; try with_reducible rfl)
  simp only [Act.put, tS1, tS2, tS3]
  refine tkA 11 (?_) ?_ E0.out ?_
  rotate_left
  · (intro w1 hS; go_simp; try with_reducible rfl)
  simp only [Act.put, tS1, tS2, tS3]
  refine tkA 12 (?_) ?_ E0.out ?_
  rotate_left
  · (intro w1 hS; go_simp; try with_reducible rfl)
  simp only [Act.put, tS1, tS2, tS3]
  refine tkA 13 (?_) ?_ E0.out ?_
  rotate_left
  · (intro w1 hS; have hW := hS; have q := ((G.out.below hW G.out.lt).cell 0).trans G0.out; clear hW hS; go_simp; try with_reducible rfl)
  simp only [Act.put, tS1, tS2, tS3]
  refine tkA 14 (?_) ?_ E0.out ?_
  rotate_left
  · (intro w1 hS; go_simp; try with_reducible rfl)
  simp only [Act.put, tS1, tS2, tS3]
  refine tkA 15 (?_) ?_ E0.out ?_
  rotate_left
  · (intro w1 hS; go_simp; try with_reducible rfl)
  simp only [Act.put, tS1, tS2, tS3]
  refine tkA 16 (?_) ?_ E0.out ?_
  rotate_left
  · (intro w1 hS; go_simp; try with_reducible rfl)
  simp only [Act.put, tS1, tS2, tS3]
  refine wpAnyH_done (by kernel_rfl) ?_ _
  have hy := E0.out
  replace K := Lib.hid (K.out.trans (hy.mono K.out.size))
  replace G := Lib.hid (G.out.below hy G.out.lt)
  replace R := Lib.hid (R.out.below hy R.out.lt)
  replace P := Lib.hid (P.out.below hy P.out.lt)
  clear hy E0
  go_wp2
  go_ret
  exact ⟨rfl, K.out⟩
set_option maxRecDepth 100000 in
set_option maxHeartbeats 4000000 in
theorem inA_blo (B st sz : Nat) (c : Nat → Option (Int × Int)) (a b : Int) (h1 : 0 ≤ a ∧ a < (st : Int) ∧ b < 0) (w : World) (h : GdA B st sz c w) :
    Calls Try.prog 35 #[.pointer (some ⟨B + 1, 0, none⟩), .agg (plA a b)] w fun e w' => e = .returned (.bool false) ∧ Below w.heap.size w w' := by
  have K := Lib.hid (Below.refl w.heap.size w)
  have G := Lib.hid h.G
  have R := Lib.hid h.R
  obtain ⟨s, rfl⟩ : ∃ s : Nat, a = (s : Int) := ⟨a.toNat, by omega⟩
  obtain ⟨-, q1, q2⟩ := h1
  have hlt := h.lt
  have hst := h.s2
  have hsz := h.z2
  have HD := Lib.hid (hdr_get B sz st)
  obtain ⟨p0, p1⟩ := plA_get (s : Int) b
  have P0 := Lib.hid p0
  have P1 := Lib.hid p1
  have PI := Lib.hid (plA_i (s : Int) b)
  obtain ⟨g0, g1⟩ := grC_get B st (itF c 0 (st * sz)).length
  have G0 := Lib.hid g0
  clear p0 p1 g0 g1 h
  generalize plA (s : Int) b = pc at *
  generalize grC B st (itF c 0 (st * sz)).length = gc at *
  have d1 : decide ((s : Int) < 0) = false := decide_eq_false (by omega)
  have d2 : decide ((s : Int) ≥ (st : Int)) = false := decide_eq_false (by omega)
  have d3 : decide ((st : Int) ≤ (s : Int)) = false := decide_eq_false (by omega)
  have d4 : decide (s ≥ st) = false := decide_eq_false (by omega)
  have d5 : decide (st ≤ s) = false := decide_eq_false (by omega)
  have d6 : decide (b ≥ 0) = false := decide_eq_false (by omega)
  have d7 : decide (0 ≤ b) = false := decide_eq_false (by omega)
  have hq := eqgA_some ⟨B + 1, 0, none⟩
  go_enter Try.func35, Try.ntmps35
  have hal := (Below.refl w.heap.size w).alloc (Nat.le_refl _) (.cells pc 30)
  replace K := Lib.hid (K.out.trans (hal.mono K.out.size))
  replace G := Lib.hid (G.out.below hal G.out.lt)
  replace R := Lib.hid (R.out.below hal R.out.lt)
  have P := Lib.hid (Blk.new w 30 pc)
  clear hal
  go_wp2_with fail
  have hzV1 : Hid ((w.alloc (.cells pc 30)).heap.size = w.heap.size + 1) := by show _ = _; simp only [World.size_alloc]
  generalize (w.alloc (.cells pc 30)) = V1 at *
  refine wp_region_held (S := (fun w' : World => Below (V1.heap.size) V1 w')) (by kernel_rfl) ?_
  change wpAnyH _ _ _ _ _ _ _ _ V1.drew
  have hy : Below V1.heap.size V1 V1.drew := (Below.refl _ _).drew
  have hE0 : Below (V1.heap.size) V1 V1.drew := (Below.refl _ _).drew
  clear hy
  generalize V1.drew = Y1x0 at hE0  ⊢
  have E0 := Lib.hid hE0
  clear hE0
  refine tkA 0 (?_) ?_ E0.out ?_
  rotate_left
  · (intro w1 hS; go_simp; try with_reducible rfl)
  simp only [Act.put, tS1, tS2, tS3]
  refine tkA 1 (?_) ?_ E0.out ?_
  rotate_left
  · (intro w1 hS; go_simp; try with_reducible rfl)
  simp only [Act.put, tS1, tS2, tS3]
  refine tkA 2 (?_) ?_ E0.out ?_
  rotate_left
  · (intro w1 hS; go_simp; try with_reducible rfl)
  simp only [Act.put, tS1, tS2, tS3]
  refine tkA 3 (?_) ?_ E0.out ?_
  rotate_left
  · (intro w1 hS; go_simp; try with_reducible rfl)
  simp only [Act.put, tS1, tS2, tS3]
  refine tkA 4 (?_) ?_ E0.out ?_
  rotate_left
  · (intro w1 hS; have hW := hS; have q := ((P.out.below hW P.out.lt).cell 0).trans P0.out; clear hW hS; go_simp; try with_reducible rfl)
  simp only [Act.put, tS1, tS2, tS3]
  refine tkA 5 (?_) ?_ E0.out ?_
  rotate_left
  · (intro w1 hS; go_simp; try with_reducible rfl)
  simp only [Act.put, tS1, tS2, tS3]
  refine tkA 6 (?_) ?_ E0.out ?_
  rotate_left
  · (intro w1 hS; go_simp; try with_reducible rfl)
  simp only [Act.put, tS1, tS2, tS3]
  refine tkA 7 (?_) ?_ E0.out ?_
  rotate_left
  · (intro w1 hS; go_simp; try with_reducible rfl)
  simp only [Act.put, tS1, tS2, tS3]
  refine tkA 8 (?_) ?_ E0.out ?_
  rotate_left
  · (intro w1 hS; go_simp; try with_reducible rfl)
  simp only [Act.put, tS1, tS2, tS3]
  refine tkA 9 (?_) ?_ E0.out ?_
  rotate_left
  · (intro w1 hS; have hW := hS; have q := ((P.out.below hW P.out.lt).cell 0).trans P0.out; clear hW hS; go_simp; try with_reducible rfl)
  simp only [Act.put, tS1, tS2, tS3]
  refine tkA 10 (?_) ?_ E0.out ?_
  rotate_left
  · (intro w1 hS; go_simp; try with_reducible rfl)
  simp only [Act.put, tS1, tS2, tS3]
  refine tkA 11 (?_) ?_ E0.out ?_
  rotate_left
  · (intro w1 hS; go_simp; try with_reducible rfl)
  simp only [Act.put, tS1, tS2, tS3]
  refine tkA 12 (?_) ?_ E0.out ?_
  rotate_left
  · (intro w1 hS; go_simp; try with_reducible rfl)
  simp only [Act.put, tS1, tS2, tS3]
  refine tkA 13 (?_) ?_ E0.out ?_
  rotate_left
  · (intro w1 hS; have hW := hS; have q := ((G.out.below hW G.out.lt).cell 0).trans G0.out; clear hW hS; go_simp; try with_reducible rfl)
  simp only [Act.put, tS1, tS2, tS3]
  refine tkA 14 (?_) ?_ E0.out ?_
  rotate_left
  · (intro w1 hS; go_simp; try with_reducible rfl)
  simp only [Act.put, tS1, tS2, tS3]
  refine tkA 15 (?_) ?_ E0.out ?_
  rotate_left
  · (intro w1 hS; go_simp; try with_reducible rfl)
  simp only [Act.put, tS1, tS2, tS3]
  refine tkA 16 (?_) ?_ E0.out ?_
  rotate_left
  · (intro w1 hS; go_simp; try with_reducible rfl)
  simp only [Act.put, tS1, tS2, tS3]
  refine wpAnyH_done (by kernel_rfl) ?_ _
  have hy := E0.out
  replace K := Lib.hid (K.out.trans (hy.mono K.out.size))
  replace G := Lib.hid (G.out.below hy G.out.lt)
  replace R := Lib.hid (R.out.below hy R.out.lt)
  replace P := Lib.hid (P.out.below hy P.out.lt)
  clear hy E0
  go_wp2_with fail
  refine wp_region_held (S := (fun w' : World => Below (Y1x0.heap.size) Y1x0 w')) (by kernel_rfl) ?_
  change wpAnyH _ _ _ _ _ _ _ _ Y1x0.drew
  have hy : Below Y1x0.heap.size Y1x0 Y1x0.drew := (Below.refl _ _).drew
  have hE0 : Below (Y1x0.heap.size) Y1x0 Y1x0.drew := (Below.refl _ _).drew
  clear hy
  generalize Y1x0.drew = Y3x0 at hE0  ⊢
  have E0 := Lib.hid hE0
  clear hE0
  refine tkA 0 (?_) ?_ E0.out ?_
  rotate_left
  · (intro w1 hS; go_simp; try with_reducible rfl)
  simp only [Act.put, tS1, tS2, tS3]
  refine tkA 1 (?_) ?_ E0.out ?_
  rotate_left
  · (intro w1 hS; have hW := hS; have q := ((P.out.below hW P.out.lt).cell 1).trans P1.out; clear hW hS; go_simp; try with_reducible rfl)
  simp only [Act.put, tS1, tS2, tS3]
  refine tkA 2 (?_) ?_ E0.out ?_
  rotate_left
  · (intro w1 hS; go_simp; try with_reducible rfl)
  simp only [Act.put, tS1, tS2, tS3]
  refine tkA 3 (?_) ?_ E0.out ?_
  rotate_left
  · (intro w1 hS; go_simp; try with_reducible rfl)
  simp only [Act.put, tS1, tS2, tS3]
  refine tkN 4 E0.out ?_
  simp only [Act.put, tS1, tS2, tS3]
  refine tkN 5 E0.out ?_
  simp only [Act.put, tS1, tS2, tS3]
  refine tkN 6 E0.out ?_
  simp only [Act.put, tS1, tS2, tS3]
  refine tkN 7 E0.out ?_
  simp only [Act.put, tS1, tS2, tS3]
  refine tkN 8 E0.out ?_
  simp only [Act.put, tS1, tS2, tS3]
  refine tkN 9 E0.out ?_
  simp only [Act.put, tS1, tS2, tS3]
  refine tkN 10 E0.out ?_
  simp only [Act.put, tS1, tS2, tS3]
  refine tkN 11 E0.out ?_
  simp only [Act.put, tS1, tS2, tS3]
  refine tkN 12 E0.out ?_
  simp only [Act.put, tS1, tS2, tS3]
  refine tkN 13 E0.out ?_
  simp only [Act.put, tS1, tS2, tS3]
  refine tkN 14 E0.out ?_
  simp only [Act.put, tS1, tS2, tS3]
  refine tkN 15 E0.out ?_
  simp only [Act.put, tS1, tS2, tS3]
  refine tkA 16 (?_) ?_ E0.out ?_
  rotate_left
  · (intro w1 hS; go_simp; try with_reducible rfl)
  simp only [Act.put, tS1, tS2, tS3]
  refine tkA 17 (?_) ?_ E0.out ?_
  rotate_left
  · (intro w1 hS; go_simp; try with_reducible rfl)
  simp only [Act.put, tS1, tS2, tS3]
  refine wpAnyH_done (by kernel_rfl) ?_ _
  have hy := E0.out
  replace K := Lib.hid (K.out.trans (hy.mono K.out.size))
  replace G := Lib.hid (G.out.below hy G.out.lt)
  replace R := Lib.hid (R.out.below hy R.out.lt)
  replace P := Lib.hid (P.out.below hy P.out.lt)
  clear hy E0
  go_wp2
  go_ret
  exact ⟨rfl, K.out⟩
set_option maxRecDepth 100000 in
set_option maxHeartbeats 4000000 in
theorem inA_bhi (B st sz : Nat) (c : Nat → Option (Int × Int)) (a b : Int) (h1 : 0 ≤ a ∧ a < (st : Int) ∧ (sz : Int) ≤ b) (w : World) (h : GdA B st sz c w) :
    Calls Try.prog 35 #[.pointer (some ⟨B + 1, 0, none⟩), .agg (plA a b)] w fun e w' => e = .returned (.bool false) ∧ Below w.heap.size w w' := by
  have K := Lib.hid (Below.refl w.heap.size w)
  have G := Lib.hid h.G
  have R := Lib.hid h.R
  obtain ⟨s, rfl⟩ : ∃ s : Nat, a = (s : Int) := ⟨a.toNat, by omega⟩
  obtain ⟨-, q1, q3⟩ := h1
  have hlt := h.lt
  have hst := h.s2
  have hsz := h.z2
  have HD := Lib.hid (hdr_get B sz st)
  obtain ⟨p0, p1⟩ := plA_get (s : Int) b
  have P0 := Lib.hid p0
  have P1 := Lib.hid p1
  have PI := Lib.hid (plA_i (s : Int) b)
  obtain ⟨g0, g1⟩ := grC_get B st (itF c 0 (st * sz)).length
  have G0 := Lib.hid g0
  clear p0 p1 g0 g1 h
  generalize plA (s : Int) b = pc at *
  generalize grC B st (itF c 0 (st * sz)).length = gc at *
  have d1 : decide ((s : Int) < 0) = false := decide_eq_false (by omega)
  have d2 : decide ((s : Int) ≥ (st : Int)) = false := decide_eq_false (by omega)
  have d3 : decide ((st : Int) ≤ (s : Int)) = false := decide_eq_false (by omega)
  have d4 : decide (s ≥ st) = false := decide_eq_false (by omega)
  have d5 : decide (st ≤ s) = false := decide_eq_false (by omega)
  have d6 : decide (b ≥ 0) = true := decide_eq_true (by omega)
  have d7 : decide (0 ≤ b) = true := decide_eq_true (by omega)
  have d8 : decide (b < (sz : Int)) = false := decide_eq_false (by omega)
  have hs0 : 0 ≤ (s : Int) ∧ (s : Int) < (st : Int) := by omega
  have hs1 : s < st := by omega
  have hq := eqgA_some ⟨B + 1, 0, none⟩
  go_enter Try.func35, Try.ntmps35
  have hal := (Below.refl w.heap.size w).alloc (Nat.le_refl _) (.cells pc 30)
  replace K := Lib.hid (K.out.trans (hal.mono K.out.size))
  replace G := Lib.hid (G.out.below hal G.out.lt)
  replace R := Lib.hid (R.out.below hal R.out.lt)
  have P := Lib.hid (Blk.new w 30 pc)
  clear hal
  go_wp2_with fail
  have hzV1 : Hid ((w.alloc (.cells pc 30)).heap.size = w.heap.size + 1) := by show _ = _; simp only [World.size_alloc]
  generalize (w.alloc (.cells pc 30)) = V1 at *
  refine wp_region_held (S := (fun w' : World => Below (V1.heap.size) V1 w')) (by kernel_rfl) ?_
  change wpAnyH _ _ _ _ _ _ _ _ V1.drew
  have hy : Below V1.heap.size V1 V1.drew := (Below.refl _ _).drew
  have hE0 : Below (V1.heap.size) V1 V1.drew := (Below.refl _ _).drew
  clear hy
  generalize V1.drew = Y1x0 at hE0  ⊢
  have E0 := Lib.hid hE0
  clear hE0
  refine tkA 0 (?_) ?_ E0.out ?_
  rotate_left
  · (intro w1 hS; go_simp; try with_reducible rfl)
  simp only [Act.put, tS1, tS2, tS3]
  refine tkA 1 (?_) ?_ E0.out ?_
  rotate_left
  · (intro w1 hS; go_simp; try with_reducible rfl)
  simp only [Act.put, tS1, tS2, tS3]
  refine tkA 2 (?_) ?_ E0.out ?_
  rotate_left
  · (intro w1 hS; go_simp; try with_reducible rfl)
  simp only [Act.put, tS1, tS2, tS3]
  refine tkA 3 (?_) ?_ E0.out ?_
  rotate_left
  · (intro w1 hS; go_simp; try with_reducible rfl)
  simp only [Act.put, tS1, tS2, tS3]
  refine tkA 4 (?_) ?_ E0.out ?_
  rotate_left
  · (intro w1 hS; have hW := hS; have q := ((P.out.below hW P.out.lt).cell 0).trans P0.out; clear hW hS; go_simp; try with_reducible rfl)
  simp only [Act.put, tS1, tS2, tS3]
  refine tkA 5 (?_) ?_ E0.out ?_
  rotate_left
  · (intro w1 hS; go_simp; try with_reducible rfl)
  simp only [Act.put, tS1, tS2, tS3]
  refine tkA 6 (?_) ?_ E0.out ?_
  rotate_left
  · (intro w1 hS; go_simp; try with_reducible rfl)
  simp only [Act.put, tS1, tS2, tS3]
  refine tkA 7 (?_) ?_ E0.out ?_
  rotate_left
  · (intro w1 hS; go_simp; try with_reducible rfl)
  simp only [Act.put, tS1, tS2, tS3]
  refine tkA 8 (?_) ?_ E0.out ?_
  rotate_left
  · (intro w1 hS; go_simp; try with_reducible rfl)
  simp only [Act.put, tS1, tS2, tS3]
  refine tkA 9 (?_) ?_ E0.out ?_
  rotate_left
  · (intro w1 hS; have hW := hS; have q := ((P.out.below hW P.out.lt).cell 0).trans P0.out; clear hW hS; go_simp; try with_reducible rfl)
  simp only [Act.put, tS1, tS2, tS3]
  refine tkA 10 (?_) ?_ E0.out ?_
  rotate_left
  · (intro w1 hS; go_simp; try with_reducible rfl)
  simp only [Act.put, tS1, tS2, tS3]
  refine tkA 11 (?_) ?_ E0.out ?_
  rotate_left
  · (intro w1 hS; go_simp; try with_reducible rfl)
  simp only [Act.put, tS1, tS2, tS3]
  refine tkA 12 (?_) ?_ E0.out ?_
  rotate_left
  · (intro w1 hS; go_simp; try with_reducible rfl)
  simp only [Act.put, tS1, tS2, tS3]
  refine tkA 13 (?_) ?_ E0.out ?_
  rotate_left
  · (intro w1 hS; have hW := hS; have q := ((G.out.below hW G.out.lt).cell 0).trans G0.out; clear hW hS; go_simp; try with_reducible rfl)
  simp only [Act.put, tS1, tS2, tS3]
  refine tkA 14 (?_) ?_ E0.out ?_
  rotate_left
  · (intro w1 hS; go_simp; try with_reducible rfl)
  simp only [Act.put, tS1, tS2, tS3]
  refine tkA 15 (?_) ?_ E0.out ?_
  rotate_left
  · (intro w1 hS; go_simp; try with_reducible rfl)
  simp only [Act.put, tS1, tS2, tS3]
  refine tkA 16 (?_) ?_ E0.out ?_
  rotate_left
  · (intro w1 hS; go_simp; try with_reducible rfl)
  simp only [Act.put, tS1, tS2, tS3]
  refine wpAnyH_done (by kernel_rfl) ?_ _
  have hy := E0.out
  replace K := Lib.hid (K.out.trans (hy.mono K.out.size))
  replace G := Lib.hid (G.out.below hy G.out.lt)
  replace R := Lib.hid (R.out.below hy R.out.lt)
  replace P := Lib.hid (P.out.below hy P.out.lt)
  clear hy E0
  go_wp2_with fail
  refine wp_region_held (S := (fun w' : World => Below (Y1x0.heap.size) Y1x0 w')) (by kernel_rfl) ?_
  change wpAnyH _ _ _ _ _ _ _ _ Y1x0.drew
  have hy : Below Y1x0.heap.size Y1x0 Y1x0.drew := (Below.refl _ _).drew
  have hE0 : Below (Y1x0.heap.size) Y1x0 Y1x0.drew := (Below.refl _ _).drew
  clear hy
  generalize Y1x0.drew = Y3x0 at hE0  ⊢
  have E0 := Lib.hid hE0
  clear hE0
  refine tkA 0 (?_) ?_ E0.out ?_
  rotate_left
  · (intro w1 hS; go_simp; try with_reducible rfl)
  simp only [Act.put, tS1, tS2, tS3]
  refine tkA 1 (?_) ?_ E0.out ?_
  rotate_left
  · (intro w1 hS; have hW := hS; have q := ((P.out.below hW P.out.lt).cell 1).trans P1.out; clear hW hS; go_simp; try with_reducible rfl)
  simp only [Act.put, tS1, tS2, tS3]
  refine tkA 2 (?_) ?_ E0.out ?_
  rotate_left
  · (intro w1 hS; go_simp; try with_reducible rfl)
  simp only [Act.put, tS1, tS2, tS3]
  refine tkA 3 (?_) ?_ E0.out ?_
  rotate_left
  · (intro w1 hS; go_simp; try with_reducible rfl)
  simp only [Act.put, tS1, tS2, tS3]
  refine tkA 4 (?_) ?_ E0.out ?_
  rotate_left
  · (intro w1 hS; go_simp; try with_reducible rfl)
  simp only [Act.put, tS1, tS2, tS3]
  refine tkA 5 (?_) ?_ E0.out ?_
  rotate_left
  · (intro w1 hS; have hW := hS; have q := ((P.out.below hW P.out.lt).cell 1).trans P1.out; clear hW hS; go_simp; try with_reducible rfl)
  simp only [Act.put, tS1, tS2, tS3]
  refine tkA 6 (?_) ?_ E0.out ?_
  rotate_left
  · (intro w1 hS; go_simp; try with_reducible rfl)
  simp only [Act.put, tS1, tS2, tS3]
  refine tkA 7 (?_) ?_ E0.out ?_
  rotate_left
  · (intro w1 hS; go_simp; try with_reducible rfl)
  simp only [Act.put, tS1, tS2, tS3]
  refine tkA 8 (?_) ?_ E0.out ?_
  rotate_left
  · (intro w1 hS; go_simp; try with_reducible rfl)
  simp only [Act.put, tS1, tS2, tS3]
  refine tkA 9 (?_) ?_ E0.out ?_
  rotate_left
  · (intro w1 hS; have hW := hS; have q := ((G.out.below hW G.out.lt).cell 0).trans G0.out; clear hW hS; go_simp; try with_reducible rfl)
  simp only [Act.put, tS1, tS2, tS3]
  refine tkA 10 (?_) ?_ E0.out ?_
  rotate_left
  · (intro w1 hS; go_simp; try with_reducible rfl)
  simp only [Act.put, tS1, tS2, tS3]
  refine tkA 11 (?_) ?_ E0.out ?_
  rotate_left
  · (intro w1 hS; have hW := hS; have q := ((P.out.below hW P.out.lt).cell 0).trans P0.out; clear hW hS; go_simp; try with_reducible rfl)
  simp only [Act.put, tS1, tS2, tS3]
  refine tkA 12 (?_) ?_ E0.out ?_
  rotate_left
  · (intro w1 hS; go_simp; try with_reducible rfl)
  simp only [Act.put, tS1, tS2, tS3]
  refine tkA 13 (?_) ?_ E0.out ?_
  rotate_left
  · (intro w1 hS; have hW := hS; have q := ((R.out.below hW R.out.lt).cell s).trans (HD.out s hs1); clear hW hS; go_simp; try with_reducible rfl)
  simp only [Act.put, tS1, tS2, tS3]
  refine tkA 14 (?_) ?_ E0.out ?_
  rotate_left
  · (intro w1 hS; go_simp; try with_reducible rfl)
  simp only [Act.put, tS1, tS2, tS3]
  refine tkA 15 (?_) ?_ E0.out ?_
  rotate_left
  · (intro w1 hS; go_simp; try with_reducible rfl)
  simp only [Act.put, tS1, tS2, tS3]
  refine tkA 16 (?_) ?_ E0.out ?_
  rotate_left
  · (intro w1 hS; go_simp; try with_reducible rfl)
  simp only [Act.put, tS1, tS2, tS3]
  refine tkA 17 (?_) ?_ E0.out ?_
  rotate_left
  · (intro w1 hS; go_simp; try with_reducible rfl)
  simp only [Act.put, tS1, tS2, tS3]
  refine wpAnyH_done (by kernel_rfl) ?_ _
  have hy := E0.out
  replace K := Lib.hid (K.out.trans (hy.mono K.out.size))
  replace G := Lib.hid (G.out.below hy G.out.lt)
  replace R := Lib.hid (R.out.below hy R.out.lt)
  replace P := Lib.hid (P.out.below hy P.out.lt)
  clear hy E0
  go_wp2
  go_ret
  exact ⟨rfl, K.out⟩
set_option maxRecDepth 100000 in
set_option maxHeartbeats 4000000 in
theorem inA_yes (B st sz : Nat) (c : Nat → Option (Int × Int)) (a b : Int) (h1 : inP st sz a b) (w : World) (h : GdA B st sz c w) :
    Calls Try.prog 35 #[.pointer (some ⟨B + 1, 0, none⟩), .agg (plA a b)] w fun e w' => e = .returned (.bool true) ∧ Below w.heap.size w w' := by
  have K := Lib.hid (Below.refl w.heap.size w)
  have G := Lib.hid h.G
  have R := Lib.hid h.R
  obtain ⟨s, rfl⟩ : ∃ s : Nat, a = (s : Int) := ⟨a.toNat, by obtain ⟨q1, q2, q3, q4⟩ := h1; omega⟩
  obtain ⟨-, q1, q2, q3⟩ := h1
  have hlt := h.lt
  have hst := h.s2
  have hsz := h.z2
  have HD := Lib.hid (hdr_get B sz st)
  obtain ⟨p0, p1⟩ := plA_get (s : Int) b
  have P0 := Lib.hid p0
  have P1 := Lib.hid p1
  have PI := Lib.hid (plA_i (s : Int) b)
  obtain ⟨g0, g1⟩ := grC_get B st (itF c 0 (st * sz)).length
  have G0 := Lib.hid g0
  clear p0 p1 g0 g1 h
  generalize plA (s : Int) b = pc at *
  generalize grC B st (itF c 0 (st * sz)).length = gc at *
  have d1 : decide ((s : Int) < 0) = false := decide_eq_false (by omega)
  have d2 : decide ((s : Int) ≥ (st : Int)) = false := decide_eq_false (by omega)
  have d3 : decide ((st : Int) ≤ (s : Int)) = false := decide_eq_false (by omega)
  have d4 : decide (s ≥ st) = false := decide_eq_false (by omega)
  have d5 : decide (st ≤ s) = false := decide_eq_false (by omega)
  have d6 : decide (b ≥ 0) = true := decide_eq_true (by omega)
  have d7 : decide (0 ≤ b) = true := decide_eq_true (by omega)
  have d8 : decide (b < (sz : Int)) = true := decide_eq_true (by omega)
  have hs0 : 0 ≤ (s : Int) ∧ (s : Int) < (st : Int) := by omega
  have hs1 : s < st := by omega
  have hq := eqgA_some ⟨B + 1, 0, none⟩
  go_enter Try.func35, Try.ntmps35
  have hal := (Below.refl w.heap.size w).alloc (Nat.le_refl _) (.cells pc 30)
  replace K := Lib.hid (K.out.trans (hal.mono K.out.size))
  replace G := Lib.hid (G.out.below hal G.out.lt)
  replace R := Lib.hid (R.out.below hal R.out.lt)
  have P := Lib.hid (Blk.new w 30 pc)
  clear hal
  go_wp2_with fail
  have hzV1 : Hid ((w.alloc (.cells pc 30)).heap.size = w.heap.size + 1) := by show _ = _; simp only [World.size_alloc]
  generalize (w.alloc (.cells pc 30)) = V1 at *
  refine wp_region_held (S := (fun w' : World => Below (V1.heap.size) V1 w')) (by kernel_rfl) ?_
  change wpAnyH _ _ _ _ _ _ _ _ V1.drew
  have hy : Below V1.heap.size V1 V1.drew := (Below.refl _ _).drew
  have hE0 : Below (V1.heap.size) V1 V1.drew := (Below.refl _ _).drew
  clear hy
  generalize V1.drew = Y1x0 at hE0  ⊢
  have E0 := Lib.hid hE0
  clear hE0
  refine tkA 0 (?_) ?_ E0.out ?_
  rotate_left
  · (intro w1 hS; go_simp; try with_reducible rfl)
  simp only [Act.put, tS1, tS2, tS3]
  refine tkA 1 (?_) ?_ E0.out ?_
  rotate_left
  · (intro w1 hS; go_simp; try with_reducible rfl)
  simp only [Act.put, tS1, tS2, tS3]
  refine tkA 2 (?_) ?_ E0.out ?_
  rotate_left
  · (intro w1 hS; go_simp; try with_reducible rfl)
  simp only [Act.put, tS1, tS2, tS3]
  refine tkA 3 (?_) ?_ E0.out ?_
  rotate_left
  · (intro w1 hS; go_simp; try with_reducible rfl)
  simp only [Act.put, tS1, tS2, tS3]
  refine tkA 4 (?_) ?_ E0.out ?_
  rotate_left
  · (intro w1 hS; have hW := hS; have q := ((P.out.below hW P.out.lt).cell 0).trans P0.out; clear hW hS; go_simp; try with_reducible rfl)
  simp only [Act.put, tS1, tS2, tS3]
  refine tkA 5 (?_) ?_ E0.out ?_
  rotate_left
  · (intro w1 hS; go_simp; try with_reducible rfl)
  simp only [Act.put, tS1, tS2, tS3]
  refine tkA 6 (?_) ?_ E0.out ?_
  rotate_left
  · (intro w1 hS; go_simp; try with_reducible rfl)
  simp only [Act.put, tS1, tS2, tS3]
  refine tkA 7 (?_) ?_ E0.out ?_
  rotate_left
  · (intro w1 hS; go_simp; try with_reducible rfl)
  simp only [Act.put, tS1, tS2, tS3]
  refine tkA 8 (?_) ?_ E0.out ?_
  rotate_left
  · (intro w1 hS; go_simp; try with_reducible rfl)
  simp only [Act.put, tS1, tS2, tS3]
  refine tkA 9 (?_) ?_ E0.out ?_
  rotate_left
  · (intro w1 hS; have hW := hS; have q := ((P.out.below hW P.out.lt).cell 0).trans P0.out; clear hW hS; go_simp; try with_reducible rfl)
  simp only [Act.put, tS1, tS2, tS3]
  refine tkA 10 (?_) ?_ E0.out ?_
  rotate_left
  · (intro w1 hS; go_simp; try with_reducible rfl)
  simp only [Act.put, tS1, tS2, tS3]
  refine tkA 11 (?_) ?_ E0.out ?_
  rotate_left
  · (intro w1 hS; go_simp; try with_reducible rfl)
  simp only [Act.put, tS1, tS2, tS3]
  refine tkA 12 (?_) ?_ E0.out ?_
  rotate_left
  · (intro w1 hS; go_simp; try with_reducible rfl)
  simp only [Act.put, tS1, tS2, tS3]
  refine tkA 13 (?_) ?_ E0.out ?_
  rotate_left
  · (intro w1 hS; have hW := hS; have q := ((G.out.below hW G.out.lt).cell 0).trans G0.out; clear hW hS; go_simp; try with_reducible rfl)
  simp only [Act.put, tS1, tS2, tS3]
  refine tkA 14 (?_) ?_ E0.out ?_
  rotate_left
  · (intro w1 hS; go_simp; try with_reducible rfl)
  simp only [Act.put, tS1, tS2, tS3]
  refine tkA 15 (?_) ?_ E0.out ?_
  rotate_left
  · (intro w1 hS; go_simp; try with_reducible rfl)
  simp only [Act.put, tS1, tS2, tS3]
  refine tkA 16 (?_) ?_ E0.out ?_
  rotate_left
  · (intro w1 hS; go_simp; try with_reducible rfl)
  simp only [Act.put, tS1, tS2, tS3]
  refine wpAnyH_done (by kernel_rfl) ?_ _
  have hy := E0.out
  replace K := Lib.hid (K.out.trans (hy.mono K.out.size))
  replace G := Lib.hid (G.out.below hy G.out.lt)
  replace R := Lib.hid (R.out.below hy R.out.lt)
  replace P := Lib.hid (P.out.below hy P.out.lt)
  clear hy E0
  go_wp2_with fail
  refine wp_region_held (S := (fun w' : World => Below (Y1x0.heap.size) Y1x0 w')) (by kernel_rfl) ?_
  change wpAnyH _ _ _ _ _ _ _ _ Y1x0.drew
  have hy : Below Y1x0.heap.size Y1x0 Y1x0.drew := (Below.refl _ _).drew
  have hE0 : Below (Y1x0.heap.size) Y1x0 Y1x0.drew := (Below.refl _ _).drew
  clear hy
  generalize Y1x0.drew = Y3x0 at hE0  ⊢
  have E0 := Lib.hid hE0
  clear hE0
  refine tkA 0 (?_) ?_ E0.out ?_
  rotate_left
  · (intro w1 hS; go_simp; try with_reducible rfl)
  simp only [Act.put, tS1, tS2, tS3]
  refine tkA 1 (?_) ?_ E0.out ?_
  rotate_left
  · (intro w1 hS; have hW := hS; have q := ((P.out.below hW P.out.lt).cell 1).trans P1.out; clear hW hS; go_simp; try with_reducible rfl)
  simp only [Act.put, tS1, tS2, tS3]
  refine tkA 2 (?_) ?_ E0.out ?_
  rotate_left
  · (intro w1 hS; go_simp; try with_reducible rfl)
  simp only [Act.put, tS1, tS2, tS3]
  refine tkA 3 (?_) ?_ E0.out ?_
  rotate_left
  · (intro w1 hS; go_simp; try with_reducible rfl)
  simp only [Act.put, tS1, tS2, tS3]
  refine tkA 4 (?_) ?_ E0.out ?_
  rotate_left
  · (intro w1 hS; go_simp; try with_reducible rfl)
  simp only [Act.put, tS1, tS2, tS3]
  refine tkA 5 (?_) ?_ E0.out ?_
  rotate_left
  · (intro w1 hS; have hW := hS; have q := ((P.out.below hW P.out.lt).cell 1).trans P1.out; clear hW hS; go_simp; try with_reducible rfl)
  simp only [Act.put, tS1, tS2, tS3]
  refine tkA 6 (?_) ?_ E0.out ?_
  rotate_left
  · (intro w1 hS; go_simp; try with_reducible rfl)
  simp only [Act.put, tS1, tS2, tS3]
  refine tkA 7 (?_) ?_ E0.out ?_
  rotate_left
  · (intro w1 hS; go_simp; try with_reducible rfl)
  simp only [Act.put, tS1, tS2, tS3]
  refine tkA 8 (?_) ?_ E0.out ?_
  rotate_left
  · (intro w1 hS; go_simp; try with_reducible rfl)
  simp only [Act.put, tS1, tS2, tS3]
  refine tkA 9 (?_) ?_ E0.out ?_
  rotate_left
  · (intro w1 hS; have hW := hS; have q := ((G.out.below hW G.out.lt).cell 0).trans G0.out; clear hW hS; go_simp; try with_reducible rfl)
  simp only [Act.put, tS1, tS2, tS3]
  refine tkA 10 (?_) ?_ E0.out ?_
  rotate_left
  · (intro w1 hS; go_simp; try with_reducible rfl)
  simp only [Act.put, tS1, tS2, tS3]
  refine tkA 11 (?_) ?_ E0.out ?_
  rotate_left
  · (intro w1 hS; have hW := hS; have q := ((P.out.below hW P.out.lt).cell 0).trans P0.out; clear hW hS; go_simp; try with_reducible rfl)
  simp only [Act.put, tS1, tS2, tS3]
  refine tkA 12 (?_) ?_ E0.out ?_
  rotate_left
  · (intro w1 hS; go_simp; try with_reducible rfl)
  simp only [Act.put, tS1, tS2, tS3]
  refine tkA 13 (?_) ?_ E0.out ?_
  rotate_left
  · (intro w1 hS; have hW := hS; have q := ((R.out.below hW R.out.lt).cell s).trans (HD.out s hs1); clear hW hS; go_simp; try with_reducible rfl)
  simp only [Act.put, tS1, tS2, tS3]
  refine tkA 14 (?_) ?_ E0.out ?_
  rotate_left
  · (intro w1 hS; go_simp; try with_reducible rfl)
  simp only [Act.put, tS1, tS2, tS3]
  refine tkA 15 (?_) ?_ E0.out ?_
  rotate_left
  · (intro w1 hS; go_simp; try with_reducible rfl)
  simp only [Act.put, tS1, tS2, tS3]
  refine tkA 16 (?_) ?_ E0.out ?_
  rotate_left
  · (intro w1 hS; go_simp; try with_reducible rfl)
  simp only [Act.put, tS1, tS2, tS3]
  refine tkA 17 (?_) ?_ E0.out ?_
  rotate_left
  · (intro w1 hS; go_simp; try with_reducible rfl)
  simp only [Act.put, tS1, tS2, tS3]
  refine wpAnyH_done (by kernel_rfl) ?_ _
  have hy := E0.out
  replace K := Lib.hid (K.out.trans (hy.mono K.out.size))
  replace G := Lib.hid (G.out.below hy G.out.lt)
  replace R := Lib.hid (R.out.below hy R.out.lt)
  replace P := Lib.hid (P.out.below hy P.out.lt)
  clear hy E0
  go_wp2
  go_ret
  exact ⟨rfl, K.out⟩
theorem inA_any (B st sz : Nat) (c : Nat → Option (Int × Int)) (a b : Int) (w : World) (h : GdA B st sz c w) :
    Calls Try.prog 35 #[.pointer (some ⟨B + 1, 0, none⟩), .agg (plA a b)] w fun e w' => e = .returned (.bool (decide (inP st sz a b))) ∧ Below w.heap.size w w' := by
  by_cases hy : inP st sz a b
  · rw [decide_eq_true hy]; exact inA_yes B st sz c a b hy w h
  · rw [decide_eq_false hy]
    unfold inP at hy
    by_cases h1 : a < 0
    · exact inA_lo B st sz c a b h1 w h
    by_cases h2 : (st : Int) ≤ a
    · exact inA_hi B st sz c a b ⟨by omega, h2⟩ w h
    by_cases h3 : b < 0
    · exact inA_blo B st sz c a b ⟨by omega, by omega, h3⟩ w h
    · exact inA_bhi B st sz c a b ⟨by omega, by omega, by omega⟩ w h
set_option maxRecDepth 100000 in
set_option maxHeartbeats 4000000 in
theorem inS_lo (B st sz : Nat) (c : Nat → Option ByteArray) (a b : Int) (h1 : a < 0) (w : World) (h : GdS B st sz c w) :
    Calls Try.prog 28 #[.pointer (some ⟨B + 1, 0, none⟩), .agg (plA a b)] w fun e w' => e = .returned (.bool false) ∧ Below w.heap.size w w' := by
  have K := Lib.hid (Below.refl w.heap.size w)
  have G := Lib.hid h.G
  have R := Lib.hid h.R
  have hlt := h.lt
  have hst := h.s2
  have hsz := h.z2
  have HD := Lib.hid (hdr_get B sz st)
  obtain ⟨p0, p1⟩ := plA_get a b
  have P0 := Lib.hid p0
  have P1 := Lib.hid p1
  have PI := Lib.hid (plA_i a b)
  obtain ⟨g0, g1⟩ := grC_get B st (itF c 0 (st * sz)).length
  have G0 := Lib.hid g0
  clear p0 p1 g0 g1 h
  generalize plA a b = pc at *
  generalize grC B st (itF c 0 (st * sz)).length = gc at *
  have d1 : decide (a < 0) = true := decide_eq_true h1
  have hq := eqgS_some ⟨B + 1, 0, none⟩
  go_enter Try.func28, Try.ntmps28
  have hal := (Below.refl w.heap.size w).alloc (Nat.le_refl _) (.cells pc 30)
  replace K := Lib.hid (K.out.trans (hal.mono K.out.size))
  replace G := Lib.hid (G.out.below hal G.out.lt)
  replace R := Lib.hid (R.out.below hal R.out.lt)
  have P := Lib.hid (Blk.new w 30 pc)
  clear hal
  go_wp2_with fail
  have hzV1 : Hid ((w.alloc (.cells pc 30)).heap.size = w.heap.size + 1) := by show _ = _; simp only [World.size_alloc]
  generalize (w.alloc (.cells pc 30)) = V1 at *
  refine wp_region_held (S := (fun w' : World => Below (V1.heap.size) V1 w')) (by kernel_rfl) ?_
  change wpAnyH _ _ _ _ _ _ _ _ V1.drew
  have hy : Below V1.heap.size V1 V1.drew := (Below.refl _ _).drew
  have hE0 : Below (V1.heap.size) V1 V1.drew := (Below.refl _ _).drew
  clear hy
  generalize V1.drew = Y1x0 at hE0  ⊢
  have E0 := Lib.hid hE0
  clear hE0
  refine tkA 0 (?_) ?_ E0.out ?_
  rotate_left
  · (intro w1 hS; go_simp; try with_reducible rfl)
  simp only [Act.put, tS1, tS2, tS3]
  refine tkA 1 (?_) ?_ E0.out ?_
  rotate_left
  · (intro w1 hS; go_simp; try with_reducible rfl)
  simp only [Act.put, tS1, tS2, tS3]
  refine tkA 2 (?_) ?_ E0.out ?_
  rotate_left
  · (intro w1 hS; go_simp; try with_reducible rfl)
  simp only [Act.put, tS1, tS2, tS3]
  refine tkA 3 (?_) ?_ E0.out ?_
  rotate_left
  · (intro w1 hS; go_simp; try with_reducible rfl)
  simp only [Act.put, tS1, tS2, tS3]
  refine tkA 4 (?_) ?_ E0.out ?_
  rotate_left
  · (intro w1 hS; have hW := hS; have q := ((P.out.below hW P.out.lt).cell 0).trans P0.out; clear hW hS; go_simp; try with_reducible rfl)
  simp only [Act.put, tS1, tS2, tS3]
  refine tkA 5 (?_) ?_ E0.out ?_
  rotate_left
  · (intro w1 hS; go_simp; try with_reducible rfl)
  simp only [Act.put, tS1, tS2, tS3]
  refine tkA 6 (?_) ?_ E0.out ?_
  rotate_left
  · (intro w1 hS; go_simp; try with_reducible rfl)
  simp only [Act.put, tS1, tS2, tS3]
  refine tkA 7 (?_) ?_ E0.out ?_
  rotate_left
  · (intro w1 hS; go_simp; try with_reducible rfl)
  simp only [Act.put, tS1, tS2, tS3]
  refine tkN 8 E0.out ?_
  simp only [Act.put, tS1, tS2, tS3]
  refine tkN 9 E0.out ?_
  simp only [Act.put, tS1, tS2, tS3]
  refine tkN 10 E0.out ?_
  simp only [Act.put, tS1, tS2, tS3]
  refine tkN 11 E0.out ?_
  simp only [Act.put, tS1, tS2, tS3]
  refine tkN 12 E0.out ?_
  simp only [Act.put, tS1, tS2, tS3]
  refine tkN 13 E0.out ?_
  simp only [Act.put, tS1, tS2, tS3]
  refine tkN 14 E0.out ?_
  simp only [Act.put, tS1, tS2, tS3]
  refine tkN 15 E0.out ?_
  simp only [Act.put, tS1, tS2, tS3]
  refine tkA 16 (?_) ?_ E0.out ?_
  rotate_left
  · (intro w1 hS; go_simp; try with_reducible rfl)
  simp only [Act.put, tS1, tS2, tS3]
  refine wpAnyH_done (by kernel_rfl) ?_ _
  have hy := E0.out
  replace K := Lib.hid (K.out.trans (hy.mono K.out.size))
  replace G := Lib.hid (G.out.below hy G.out.lt)
  replace R := Lib.hid (R.out.below hy R.out.lt)
  replace P := Lib.hid (P.out.below hy P.out.lt)
  clear hy E0
  go_wp2
  go_ret
  exact ⟨rfl, K.out⟩
set_option maxRecDepth 100000 in
set_option maxHeartbeats 4000000 in
theorem inS_hi (B st sz : Nat) (c : Nat → Option ByteArray) (a b : Int) (h1 : 0 ≤ a ∧ (st : Int) ≤ a) (w : World) (h : GdS B st sz c w) :
    Calls Try.prog 28 #[.pointer (some ⟨B + 1, 0, none⟩), .agg (plA a b)] w fun e w' => e = .returned (.bool false) ∧ Below w.heap.size w w' := by
  have K := Lib.hid (Below.refl w.heap.size w)
  have G := Lib.hid h.G
  have R := Lib.hid h.R
  have hlt := h.lt
  have hst := h.s2
  have hsz := h.z2
  have HD := Lib.hid (hdr_get B sz st)
  obtain ⟨p0, p1⟩ := plA_get a b
  have P0 := Lib.hid p0
  have P1 := Lib.hid p1
  have PI := Lib.hid (plA_i a b)
  obtain ⟨g0, g1⟩ := grC_get B st (itF c 0 (st * sz)).length
  have G0 := Lib.hid g0
  clear p0 p1 g0 g1 h
  generalize plA a b = pc at *
  generalize grC B st (itF c 0 (st * sz)).length = gc at *
  obtain ⟨q1, q2⟩ := h1
  have d1 : decide (a < 0) = false := decide_eq_false (by omega)
  have d2 : decide (a ≥ (st : Int)) = true := decide_eq_true (by omega)
  have d3 : decide ((st : Int) ≤ a) = true := decide_eq_true (by omega)
  have hq := eqgS_some ⟨B + 1, 0, none⟩
  go_enter Try.func28, Try.ntmps28
  have hal := (Below.refl w.heap.size w).alloc (Nat.le_refl _) (.cells pc 30)
  replace K := Lib.hid (K.out.trans (hal.mono K.out.size))
  replace G := Lib.hid (G.out.below hal G.out.lt)
  replace R := Lib.hid (R.out.below hal R.out.lt)
  have P := Lib.hid (Blk.new w 30 pc)
  clear hal
  go_wp2_with fail
  have hzV1 : Hid ((w.alloc (.cells pc 30)).heap.size = w.heap.size + 1) := by show _ = _; simp only [World.size_alloc]
  generalize (w.alloc (.cells pc 30)) = V1 at *
  refine wp_region_held (S := (fun w' : World => Below (V1.heap.size) V1 w')) (by kernel_rfl) ?_
  change wpAnyH _ _ _ _ _ _ _ _ V1.drew
  have hy : Below V1.heap.size V1 V1.drew := (Below.refl _ _).drew
  have hE0 : Below (V1.heap.size) V1 V1.drew := (Below.refl _ _).drew
  clear hy
  generalize V1.drew = Y1x0 at hE0  ⊢
  have E0 := Lib.hid hE0
  clear hE0
  refine tkA 0 (?_) ?_ E0.out ?_
  rotate_left
  · (intro w1 hS; go_simp; try with_reducible rfl)
  simp only [Act.put, tS1, tS2, tS3]
  refine tkA 1 (?_) ?_ E0.out ?_
  rotate_left
  · (intro w1 hS; go_simp; try with_reducible rfl)
  simp only [Act.put, tS1, tS2, tS3]
  refine tkA 2 (?_) ?_ E0.out ?_
  rotate_left
  · (intro w1 hS; go_simp; try with_reducible rfl)
  simp only [Act.put, tS1, tS2, tS3]
  refine tkA 3 (?_) ?_ E0.out ?_
  rotate_left
  · (intro w1 hS; go_simp; try with_reducible rfl)
  simp only [Act.put, tS1, tS2, tS3]
  refine tkA 4 (?_) ?_ E0.out ?_
  rotate_left
  · (intro w1 hS; have hW := hS; have q := ((P.out.below hW P.out.lt).cell 0).trans P0.out; clear hW hS; go_simp; try with_reducible rfl)
  simp only [Act.put, tS1, tS2, tS3]
  refine tkA 5 (?_) ?_ E0.out ?_
  rotate_left
  · (intro w1 hS; go_simp; try with_reducible rfl)
  simp only [Act.put, tS1, tS2, tS3]
  refine tkA 6 (?_) ?_ E0.out ?_
  rotate_left
  · (intro w1 hS; go_simp; try with_reducible rfl)
  simp only [Act.put, tS1, tS2, tS3]
  refine tkA 7 (?_) ?_ E0.out ?_
  rotate_left
  · (intro w1 hS; go_simp; try with_reducible rfl)
  simp only [Act.put, tS1, tS2, tS3]
  refine tkA 8 (?_) ?_ E0.out ?_
  rotate_left
  · (intro w1 hS; go_simp; try with_reducible rfl)
  simp only [Act.put, tS1, tS2, tS3]
  refine tkA 9 (?_) ?_ E0.out ?_
  rotate_left
  · (intro w1 hS; have hW := hS; have q := ((P.out.below hW P.out.lt).cell 0).trans P0.out; clear hW hS; go_simp; try with_reducible rfl)
  simp only [Act.put, tS1, tS2, tS3]
  refine tkA 10 (?_) ?_ E0.out ?_
  rotate_left
  · (intro w1 hS; go_simp; try with_reducible rfl)
  simp only [Act.put, tS1, tS2, tS3]
  refine tkA 11 (?_) ?_ E0.out ?_
  rotate_left
  · (intro w1 hS; go_simp; try with_reducible rfl)
  simp only [Act.put, tS1, tS2, tS3]
  refine tkA 12 (?_) ?_ E0.out ?_
  rotate_left
  · (intro w1 hS; go_simp; try with_reducible rfl)
  simp only [Act.put, tS1, tS2, tS3]
  refine tkA 13 (?_) ?_ E0.out ?_
  rotate_left
  · (intro w1 hS; have hW := hS; have q := ((G.out.below hW G.out.lt).cell 0).trans G0.out; clear hW hS; go_simp; try with_reducible rfl)
  simp only [Act.put, tS1, tS2, tS3]
  refine tkA 14 (?_) ?_ E0.out ?_
  rotate_left
  · (intro w1 hS; go_simp; try with_reducible rfl)
  simp only [Act.put, tS1, tS2, tS3]
  refine tkA 15 (?_) ?_ E0.out ?_
  rotate_left
  · (intro w1 hS; go_simp; try with_reducible rfl)
  simp only [Act.put, tS1, tS2, tS3]
  refine tkA 16 (?_) ?_ E0.out ?_
  rotate_left
  · (intro w1 hS; go_simp; try with_reducible rfl)
  simp only [Act.put, tS1, tS2, tS3]
  refine wpAnyH_done (by kernel_rfl) ?_ _
  have hy := E0.out
  replace K := Lib.hid (K.out.trans (hy.mono K.out.size))
  replace G := Lib.hid (G.out.below hy G.out.lt)
  replace R := Lib.hid (R.out.below hy R.out.lt)
  replace P := Lib.hid (P.out.below hy P.out.lt)
  clear hy E0
  go_wp2
  go_ret
  exact ⟨rfl, K.out⟩
set_option maxRecDepth 100000 in
set_option maxHeartbeats 4000000 in
theorem inS_blo (B st sz : Nat) (c : Nat → Option ByteArray) (a b : Int) (h1 : 0 ≤ a ∧ a < (st : Int) ∧ b < 0) (w : World) (h : GdS B st sz c w) :
    Calls Try.prog 28 #[.pointer (some ⟨B + 1, 0, none⟩), .agg (plA a b)] w fun e w' => e = .returned (.bool false) ∧ Below w.heap.size w w' := by
  have K := Lib.hid (Below.refl w.heap.size w)
  have G := Lib.hid h.G
  have R := Lib.hid h.R
  obtain ⟨s, rfl⟩ : ∃ s : Nat, a = (s : Int) := ⟨a.toNat, by omega⟩
  obtain ⟨-, q1, q2⟩ := h1
  have hlt := h.lt
  have hst := h.s2
  have hsz := h.z2
  have HD := Lib.hid (hdr_get B sz st)
  obtain ⟨p0, p1⟩ := plA_get (s : Int) b
  have P0 := Lib.hid p0
  have P1 := Lib.hid p1
  have PI := Lib.hid (plA_i (s : Int) b)
  obtain ⟨g0, g1⟩ := grC_get B st (itF c 0 (st * sz)).length
  have G0 := Lib.hid g0
  clear p0 p1 g0 g1 h
  generalize plA (s : Int) b = pc at *
  generalize grC B st (itF c 0 (st * sz)).length = gc at *
  have d1 : decide ((s : Int) < 0) = false := decide_eq_false (by omega)
  have d2 : decide ((s : Int) ≥ (st : Int)) = false := decide_eq_false (by omega)
  have d3 : decide ((st : Int) ≤ (s : Int)) = false := decide_eq_false (by omega)
  have d4 : decide (s ≥ st) = false := decide_eq_false (by omega)
  have d5 : decide (st ≤ s) = false := decide_eq_false (by omega)
  have d6 : decide (b ≥ 0) = false := decide_eq_false (by omega)
  have d7 : decide (0 ≤ b) = false := decide_eq_false (by omega)
  have hq := eqgS_some ⟨B + 1, 0, none⟩
  go_enter Try.func28, Try.ntmps28
  have hal := (Below.refl w.heap.size w).alloc (Nat.le_refl _) (.cells pc 30)
  replace K := Lib.hid (K.out.trans (hal.mono K.out.size))
  replace G := Lib.hid (G.out.below hal G.out.lt)
  replace R := Lib.hid (R.out.below hal R.out.lt)
  have P := Lib.hid (Blk.new w 30 pc)
  clear hal
  go_wp2_with fail
  have hzV1 : Hid ((w.alloc (.cells pc 30)).heap.size = w.heap.size + 1) := by show _ = _; simp only [World.size_alloc]
  generalize (w.alloc (.cells pc 30)) = V1 at *
  refine wp_region_held (S := (fun w' : World => Below (V1.heap.size) V1 w')) (by kernel_rfl) ?_
  change wpAnyH _ _ _ _ _ _ _ _ V1.drew
  have hy : Below V1.heap.size V1 V1.drew := (Below.refl _ _).drew
  have hE0 : Below (V1.heap.size) V1 V1.drew := (Below.refl _ _).drew
  clear hy
  generalize V1.drew = Y1x0 at hE0  ⊢
  have E0 := Lib.hid hE0
  clear hE0
  refine tkA 0 (?_) ?_ E0.out ?_
  rotate_left
  · (intro w1 hS; go_simp; try with_reducible rfl)
  simp only [Act.put, tS1, tS2, tS3]
  refine tkA 1 (?_) ?_ E0.out ?_
  rotate_left
  · (intro w1 hS; go_simp; try with_reducible rfl)
  simp only [Act.put, tS1, tS2, tS3]
  refine tkA 2 (?_) ?_ E0.out ?_
  rotate_left
  · (intro w1 hS; go_simp; try with_reducible rfl)
  simp only [Act.put, tS1, tS2, tS3]
  refine tkA 3 (?_) ?_ E0.out ?_
  rotate_left
  · (intro w1 hS; go_simp; try with_reducible rfl)
  simp only [Act.put, tS1, tS2, tS3]
  refine tkA 4 (?_) ?_ E0.out ?_
  rotate_left
  · (intro w1 hS; have hW := hS; have q := ((P.out.below hW P.out.lt).cell 0).trans P0.out; clear hW hS; go_simp; try with_reducible rfl)
  simp only [Act.put, tS1, tS2, tS3]
  refine tkA 5 (?_) ?_ E0.out ?_
  rotate_left
  · (intro w1 hS; go_simp; try with_reducible rfl)
  simp only [Act.put, tS1, tS2, tS3]
  refine tkA 6 (?_) ?_ E0.out ?_
  rotate_left
  · (intro w1 hS; go_simp; try with_reducible rfl)
  simp only [Act.put, tS1, tS2, tS3]
  refine tkA 7 (?_) ?_ E0.out ?_
  rotate_left
  · (intro w1 hS; go_simp; try with_reducible rfl)
  simp only [Act.put, tS1, tS2, tS3]
  refine tkA 8 (?_) ?_ E0.out ?_
  rotate_left
  · (intro w1 hS; go_simp; try with_reducible rfl)
  simp only [Act.put, tS1, tS2, tS3]
  refine tkA 9 (?_) ?_ E0.out ?_
  rotate_left
  · (intro w1 hS; have hW := hS; have q := ((P.out.below hW P.out.lt).cell 0).trans P0.out; clear hW hS; go_simp; try with_reducible rfl)
  simp only [Act.put, tS1, tS2, tS3]
  refine tkA 10 (?_) ?_ E0.out ?_
  rotate_left
  · (intro w1 hS; go_simp; try with_reducible rfl)
  simp only [Act.put, tS1, tS2, tS3]
  refine tkA 11 (?_) ?_ E0.out ?_
  rotate_left
  · (intro w1 hS; go_simp; try with_reducible rfl)
  simp only [Act.put, tS1, tS2, tS3]
  refine tkA 12 (?_) ?_ E0.out ?_
  rotate_left
  · (intro w1 hS; go_simp; try with_reducible rfl)
  simp only [Act.put, tS1, tS2, tS3]
  refine tkA 13 (?_) ?_ E0.out ?_
  rotate_left
  · (intro w1 hS; have hW := hS; have q := ((G.out.below hW G.out.lt).cell 0).trans G0.out; clear hW hS; go_simp; try with_reducible rfl)
  simp only [Act.put, tS1, tS2, tS3]
  refine tkA 14 (?_) ?_ E0.out ?_
  rotate_left
  · (intro w1 hS; go_simp; try with_reducible rfl)
  simp only [Act.put, tS1, tS2, tS3]
  refine tkA 15 (?_) ?_ E0.out ?_
  rotate_left
  · (intro w1 hS; go_simp; try with_reducible rfl)
  simp only [Act.put, tS1, tS2, tS3]
  refine tkA 16 (?_) ?_ E0.out ?_
  rotate_left
  · (intro w1 hS; go_simp; try with_reducible rfl)
  simp only [Act.put, tS1, tS2, tS3]
  refine wpAnyH_done (by kernel_rfl) ?_ _
  have hy := E0.out
  replace K := Lib.hid (K.out.trans (hy.mono K.out.size))
  replace G := Lib.hid (G.out.below hy G.out.lt)
  replace R := Lib.hid (R.out.below hy R.out.lt)
  replace P := Lib.hid (P.out.below hy P.out.lt)
  clear hy E0
  go_wp2_with fail
  refine wp_region_held (S := (fun w' : World => Below (Y1x0.heap.size) Y1x0 w')) (by kernel_rfl) ?_
  change wpAnyH _ _ _ _ _ _ _ _ Y1x0.drew
  have hy : Below Y1x0.heap.size Y1x0 Y1x0.drew := (Below.refl _ _).drew
  have hE0 : Below (Y1x0.heap.size) Y1x0 Y1x0.drew := (Below.refl _ _).drew
  clear hy
  generalize Y1x0.drew = Y3x0 at hE0  ⊢
  have E0 := Lib.hid hE0
  clear hE0
  refine tkA 0 (?_) ?_ E0.out ?_
  rotate_left
  · (intro w1 hS; go_simp; try with_reducible rfl)
  simp only [Act.put, tS1, tS2, tS3]
  refine tkA 1 (?_) ?_ E0.out ?_
  rotate_left
  · (intro w1 hS; have hW := hS; have q := ((P.out.below hW P.out.lt).cell 1).trans P1.out; clear hW hS; go_simp; try with_reducible rfl)
  simp only [Act.put, tS1, tS2, tS3]
  refine tkA 2 (?_) ?_ E0.out ?_
  rotate_left
  · (intro w1 hS; go_simp; try with_reducible rfl)
  simp only [Act.put, tS1, tS2, tS3]
  refine tkA 3 (?_) ?_ E0.out ?_
  rotate_left
  · (intro w1 hS; go_simp; try with_reducible rfl)
  simp only [Act.put, tS1, tS2, tS3]
  refine tkN 4 E0.out ?_
  simp only [Act.put, tS1, tS2, tS3]
  refine tkN 5 E0.out ?_
  simp only [Act.put, tS1, tS2, tS3]
  refine tkN 6 E0.out ?_
  simp only [Act.put, tS1, tS2, tS3]
  refine tkN 7 E0.out ?_
  simp only [Act.put, tS1, tS2, tS3]
  refine tkN 8 E0.out ?_
  simp only [Act.put, tS1, tS2, tS3]
  refine tkN 9 E0.out ?_
  simp only [Act.put, tS1, tS2, tS3]
  refine tkN 10 E0.out ?_
  simp only [Act.put, tS1, tS2, tS3]
  refine tkN 11 E0.out ?_
  simp only [Act.put, tS1, tS2, tS3]
  refine tkN 12 E0.out ?_
  simp only [Act.put, tS1, tS2, tS3]
  refine tkN 13 E0.out ?_
  simp only [Act.put, tS1, tS2, tS3]
  refine tkN 14 E0.out ?_
  simp only [Act.put, tS1, tS2, tS3]
  refine tkN 15 E0.out ?_
  simp only [Act.put, tS1, tS2, tS3]
  refine tkA 16 (?_) ?_ E0.out ?_
  rotate_left
  · (intro w1 hS; go_simp; try with_reducible rfl)
  simp only [Act.put, tS1, tS2, tS3]
  refine tkA 17 (?_) ?_ E0.out ?_
  rotate_left
  · (intro w1 hS; go_simp; try with_reducible rfl)
  simp only [Act.put, tS1, tS2, tS3]
  refine wpAnyH_done (by kernel_rfl) ?_ _
  have hy := E0.out
  replace K := Lib.hid (K.out.trans (hy.mono K.out.size))
  replace G := Lib.hid (G.out.below hy G.out.lt)
  replace R := Lib.hid (R.out.below hy R.out.lt)
  replace P := Lib.hid (P.out.below hy P.out.lt)
  clear hy E0
  go_wp2
  go_ret
  exact ⟨rfl, K.out⟩
set_option maxRecDepth 100000 in
set_option maxHeartbeats 4000000 in
theorem inS_bhi (B st sz : Nat) (c : Nat → Option ByteArray) (a b : Int) (h1 : 0 ≤ a ∧ a < (st : Int) ∧ (sz : Int) ≤ b) (w : World) (h : GdS B st sz c w) :
    Calls Try.prog 28 #[.pointer (some ⟨B + 1, 0, none⟩), .agg (plA a b)] w fun e w' => e = .returned (.bool false) ∧ Below w.heap.size w w' := by
  have K := Lib.hid (Below.refl w.heap.size w)
  have G := Lib.hid h.G
  have R := Lib.hid h.R
  obtain ⟨s, rfl⟩ : ∃ s : Nat, a = (s : Int) := ⟨a.toNat, by omega⟩
  obtain ⟨-, q1, q3⟩ := h1
  have hlt := h.lt
  have hst := h.s2
  have hsz := h.z2
  have HD := Lib.hid (hdr_get B sz st)
  obtain ⟨p0, p1⟩ := plA_get (s : Int) b
  have P0 := Lib.hid p0
  have P1 := Lib.hid p1
  have PI := Lib.hid (plA_i (s : Int) b)
  obtain ⟨g0, g1⟩ := grC_get B st (itF c 0 (st * sz)).length
  have G0 := Lib.hid g0
  clear p0 p1 g0 g1 h
  generalize plA (s : Int) b = pc at *
  generalize grC B st (itF c 0 (st * sz)).length = gc at *
  have d1 : decide ((s : Int) < 0) = false := decide_eq_false (by omega)
  have d2 : decide ((s : Int) ≥ (st : Int)) = false := decide_eq_false (by omega)
  have d3 : decide ((st : Int) ≤ (s : Int)) = false := decide_eq_false (by omega)
  have d4 : decide (s ≥ st) = false := decide_eq_false (by omega)
  have d5 : decide (st ≤ s) = false := decide_eq_false (by omega)
  have d6 : decide (b ≥ 0) = true := decide_eq_true (by omega)
  have d7 : decide (0 ≤ b) = true := decide_eq_true (by omega)
  have d8 : decide (b < (sz : Int)) = false := decide_eq_false (by omega)
  have hs0 : 0 ≤ (s : Int) ∧ (s : Int) < (st : Int) := by omega
  have hs1 : s < st := by omega
  have hq := eqgS_some ⟨B + 1, 0, none⟩
  go_enter Try.func28, Try.ntmps28
  have hal := (Below.refl w.heap.size w).alloc (Nat.le_refl _) (.cells pc 30)
  replace K := Lib.hid (K.out.trans (hal.mono K.out.size))
  replace G := Lib.hid (G.out.below hal G.out.lt)
  replace R := Lib.hid (R.out.below hal R.out.lt)
  have P := Lib.hid (Blk.new w 30 pc)
  clear hal
  go_wp2_with fail
  have hzV1 : Hid ((w.alloc (.cells pc 30)).heap.size = w.heap.size + 1) := by show _ = _; simp only [World.size_alloc]
  generalize (w.alloc (.cells pc 30)) = V1 at *
  refine wp_region_held (S := (fun w' : World => Below (V1.heap.size) V1 w')) (by kernel_rfl) ?_
  change wpAnyH _ _ _ _ _ _ _ _ V1.drew
  have hy : Below V1.heap.size V1 V1.drew := (Below.refl _ _).drew
  have hE0 : Below (V1.heap.size) V1 V1.drew := (Below.refl _ _).drew
  clear hy
  generalize V1.drew = Y1x0 at hE0  ⊢
  have E0 := Lib.hid hE0
  clear hE0
  refine tkA 0 (?_) ?_ E0.out ?_
  rotate_left
  · (intro w1 hS; go_simp; try with_reducible rfl)
  simp only [Act.put, tS1, tS2, tS3]
  refine tkA 1 (?_) ?_ E0.out ?_
  rotate_left
  · (intro w1 hS; go_simp; try with_reducible rfl)
  simp only [Act.put, tS1, tS2, tS3]
  refine tkA 2 (?_) ?_ E0.out ?_
  rotate_left
  · (intro w1 hS; go_simp; try with_reducible rfl)
  simp only [Act.put, tS1, tS2, tS3]
  refine tkA 3 (?_) ?_ E0.out ?_
  rotate_left
  · (intro w1 hS; go_simp; try with_reducible rfl)
  simp only [Act.put, tS1, tS2, tS3]
  refine tkA 4 (?_) ?_ E0.out ?_
  rotate_left
  · (intro w1 hS; have hW := hS; have q := ((P.out.below hW P.out.lt).cell 0).trans P0.out; clear hW hS; go_simp; try with_reducible rfl)
  simp only [Act.put, tS1, tS2, tS3]
  refine tkA 5 (?_) ?_ E0.out ?_
  rotate_left
  · (intro w1 hS; go_simp; try with_reducible rfl)
  simp only [Act.put, tS1, tS2, tS3]
  refine tkA 6 (?_) ?_ E0.out ?_
  rotate_left
  · (intro w1 hS; go_simp; try with_reducible rfl)
  simp only [Act.put, tS1, tS2, tS3]
  refine tkA 7 (?_) ?_ E0.out ?_
  rotate_left
  · (intro w1 hS; go_simp; try with_reducible rfl)
  simp only [Act.put, tS1, tS2, tS3]
  refine tkA 8 (?_) ?_ E0.out ?_
  rotate_left
  · (intro w1 hS; go_simp; try with_reducible rfl)
  simp only [Act.put, tS1, tS2, tS3]
  refine tkA 9 (?_) ?_ E0.out ?_
  rotate_left
  · (intro w1 hS; have hW := hS; have q := ((P.out.below hW P.out.lt).cell 0).trans P0.out; clear hW hS; go_simp; try with_reducible rfl)
  simp only [Act.put, tS1, tS2, tS3]
  refine tkA 10 (?_) ?_ E0.out ?_
  rotate_left
  · (intro w1 hS; go_simp; try with_reducible rfl)
  simp only [Act.put, tS1, tS2, tS3]
  refine tkA 11 (?_) ?_ E0.out ?_
  rotate_left
  · (intro w1 hS; go_simp; try with_reducible rfl)
  simp only [Act.put, tS1, tS2, tS3]
  refine tkA 12 (?_) ?_ E0.out ?_
  rotate_left
  · (intro w1 hS; go_simp; try with_reducible rfl)
  simp only [Act.put, tS1, tS2, tS3]
  refine tkA 13 (?_) ?_ E0.out ?_
  rotate_left
  · (intro w1 hS; have hW := hS; have q := ((G.out.below hW G.out.lt).cell 0).trans G0.out; clear hW hS; go_simp; try with_reducible rfl)
  simp only [Act.put, tS1, tS2, tS3]
  refine tkA 14 (?_) ?_ E0.out ?_
  rotate_left
  · (intro w1 hS; go_simp; try with_reducible rfl)
  simp only [Act.put, tS1, tS2, tS3]
  refine tkA 15 (?_) ?_ E0.out ?_
  rotate_left
  · (intro w1 hS; go_simp; try with_reducible rfl)
  simp only [Act.put, tS1, tS2, tS3]
  refine tkA 16 (?_) ?_ E0.out ?_
  rotate_left
  · (intro w1 hS; go_simp; try with_reducible rfl)
  simp only [Act.put, tS1, tS2, tS3]
  refine wpAnyH_done (by kernel_rfl) ?_ _
  have hy := E0.out
  replace K := Lib.hid (K.out.trans (hy.mono K.out.size))
  replace G := Lib.hid (G.out.below hy G.out.lt)
  replace R := Lib.hid (R.out.below hy R.out.lt)
  replace P := Lib.hid (P.out.below hy P.out.lt)
  clear hy E0
  go_wp2_with fail
  refine wp_region_held (S := (fun w' : World => Below (Y1x0.heap.size) Y1x0 w')) (by kernel_rfl) ?_
  change wpAnyH _ _ _ _ _ _ _ _ Y1x0.drew
  have hy : Below Y1x0.heap.size Y1x0 Y1x0.drew := (Below.refl _ _).drew
  have hE0 : Below (Y1x0.heap.size) Y1x0 Y1x0.drew := (Below.refl _ _).drew
  clear hy
  generalize Y1x0.drew = Y3x0 at hE0  ⊢
  have E0 := Lib.hid hE0
  clear hE0
  refine tkA 0 (?_) ?_ E0.out ?_
  rotate_left
  · (intro w1 hS; go_simp; try with_reducible rfl)
  simp only [Act.put, tS1, tS2, tS3]
  refine tkA 1 (?_) ?_ E0.out ?_
  rotate_left
  · (intro w1 hS; have hW := hS; have q := ((P.out.below hW P.out.lt).cell 1).trans P1.out; clear hW hS; go_simp; try with_reducible rfl)
  simp only [Act.put, tS1, tS2, tS3]
  refine tkA 2 (?_) ?_ E0.out ?_
  rotate_left
  · (intro w1 hS; go_simp; try with_reducible rfl)
  simp only [Act.put, tS1, tS2, tS3]
  refine tkA 3 (?_) ?_ E0.out ?_
  rotate_left
  · (intro w1 hS; go_simp; try with_reducible rfl)
  simp only [Act.put, tS1, tS2, tS3]
  refine tkA 4 (?_) ?_ E0.out ?_
  rotate_left
  · (intro w1 hS; go_simp; try with_reducible rfl)
  simp only [Act.put, tS1, tS2, tS3]
  refine tkA 5 (?_) ?_ E0.out ?_
  rotate_left
  · (intro w1 hS; have hW := hS; have q := ((P.out.below hW P.out.lt).cell 1).trans P1.out; clear hW hS; go_simp; try with_reducible rfl)
  simp only [Act.put, tS1, tS2, tS3]
  refine tkA 6 (?_) ?_ E0.out ?_
  rotate_left
  · (intro w1 hS; go_simp; try with_reducible rfl)
  simp only [Act.put, tS1, tS2, tS3]
  refine tkA 7 (?_) ?_ E0.out ?_
  rotate_left
  · (intro w1 hS; go_simp; try with_reducible rfl)
  simp only [Act.put, tS1, tS2, tS3]
  refine tkA 8 (?_) ?_ E0.out ?_
  rotate_left
  · (intro w1 hS; go_simp; try with_reducible rfl)
  simp only [Act.put, tS1, tS2, tS3]
  refine tkA 9 (?_) ?_ E0.out ?_
  rotate_left
  · (intro w1 hS; have hW := hS; have q := ((G.out.below hW G.out.lt).cell 0).trans G0.out; clear hW hS; go_simp; try with_reducible rfl)
  simp only [Act.put, tS1, tS2, tS3]
  refine tkA 10 (?_) ?_ E0.out ?_
  rotate_left
  · (intro w1 hS; go_simp; try with_reducible rfl)
  simp only [Act.put, tS1, tS2, tS3]
  refine tkA 11 (?_) ?_ E0.out ?_
  rotate_left
  · (intro w1 hS; have hW := hS; have q := ((P.out.below hW P.out.lt).cell 0).trans P0.out; clear hW hS; go_simp; try with_reducible rfl)
  simp only [Act.put, tS1, tS2, tS3]
  refine tkA 12 (?_) ?_ E0.out ?_
  rotate_left
  · (intro w1 hS; go_simp; try with_reducible rfl)
  simp only [Act.put, tS1, tS2, tS3]
  refine tkA 13 (?_) ?_ E0.out ?_
  rotate_left
  · (intro w1 hS; have hW := hS; have q := ((R.out.below hW R.out.lt).cell s).trans (HD.out s hs1); clear hW hS; go_simp; try with_reducible rfl)
  simp only [Act.put, tS1, tS2, tS3]
  refine tkA 14 (?_) ?_ E0.out ?_
  rotate_left
  · (intro w1 hS; go_simp; try with_reducible rfl)
  simp only [Act.put, tS1, tS2, tS3]
  refine tkA 15 (?_) ?_ E0.out ?_
  rotate_left
  · (intro w1 hS; go_simp; try with_reducible rfl)
  simp only [Act.put, tS1, tS2, tS3]
  refine tkA 16 (?_) ?_ E0.out ?_
  rotate_left
  · (intro w1 hS; go_simp; try with_reducible rfl)
  simp only [Act.put, tS1, tS2, tS3]
  refine tkA 17 (?_) ?_ E0.out ?_
  rotate_left
  · (intro w1 hS; go_simp; try with_reducible rfl)
  simp only [Act.put, tS1, tS2, tS3]
  refine wpAnyH_done (by kernel_rfl) ?_ _
  have hy := E0.out
  replace K := Lib.hid (K.out.trans (hy.mono K.out.size))
  replace G := Lib.hid (G.out.below hy G.out.lt)
  replace R := Lib.hid (R.out.below hy R.out.lt)
  replace P := Lib.hid (P.out.below hy P.out.lt)
  clear hy E0
  go_wp2
  go_ret
  exact ⟨rfl, K.out⟩
set_option maxRecDepth 100000 in
set_option maxHeartbeats 4000000 in
theorem inS_yes (B st sz : Nat) (c : Nat → Option ByteArray) (a b : Int) (h1 : inP st sz a b) (w : World) (h : GdS B st sz c w) :
    Calls Try.prog 28 #[.pointer (some ⟨B + 1, 0, none⟩), .agg (plA a b)] w fun e w' => e = .returned (.bool true) ∧ Below w.heap.size w w' := by
  have K := Lib.hid (Below.refl w.heap.size w)
  have G := Lib.hid h.G
  have R := Lib.hid h.R
  obtain ⟨s, rfl⟩ : ∃ s : Nat, a = (s : Int) := ⟨a.toNat, by obtain ⟨q1, q2, q3, q4⟩ := h1; omega⟩
  obtain ⟨-, q1, q2, q3⟩ := h1
  have hlt := h.lt
  have hst := h.s2
  have hsz := h.z2
  have HD := Lib.hid (hdr_get B sz st)
  obtain ⟨p0, p1⟩ := plA_get (s : Int) b
  have P0 := Lib.hid p0
  have P1 := Lib.hid p1
  have PI := Lib.hid (plA_i (s : Int) b)
  obtain ⟨g0, g1⟩ := grC_get B st (itF c 0 (st * sz)).length
  have G0 := Lib.hid g0
  clear p0 p1 g0 g1 h
  generalize plA (s : Int) b = pc at *
  generalize grC B st (itF c 0 (st * sz)).length = gc at *
  have d1 : decide ((s : Int) < 0) = false := decide_eq_false (by omega)
  have d2 : decide ((s : Int) ≥ (st : Int)) = false := decide_eq_false (by omega)
  have d3 : decide ((st : Int) ≤ (s : Int)) = false := decide_eq_false (by omega)
  have d4 : decide (s ≥ st) = false := decide_eq_false (by omega)
  have d5 : decide (st ≤ s) = false := decide_eq_false (by omega)
  have d6 : decide (b ≥ 0) = true := decide_eq_true (by omega)
  have d7 : decide (0 ≤ b) = true := decide_eq_true (by omega)
  have d8 : decide (b < (sz : Int)) = true := decide_eq_true (by omega)
  have hs0 : 0 ≤ (s : Int) ∧ (s : Int) < (st : Int) := by omega
  have hs1 : s < st := by omega
  have hq := eqgS_some ⟨B + 1, 0, none⟩
  go_enter Try.func28, Try.ntmps28
  have hal := (Below.refl w.heap.size w).alloc (Nat.le_refl _) (.cells pc 30)
  replace K := Lib.hid (K.out.trans (hal.mono K.out.size))
  replace G := Lib.hid (G.out.below hal G.out.lt)
  replace R := Lib.hid (R.out.below hal R.out.lt)
  have P := Lib.hid (Blk.new w 30 pc)
  clear hal
  go_wp2_with fail
  have hzV1 : Hid ((w.alloc (.cells pc 30)).heap.size = w.heap.size + 1) := by show _ = _; simp only [World.size_alloc]
  generalize (w.alloc (.cells pc 30)) = V1 at *
  refine wp_region_held (S := (fun w' : World => Below (V1.heap.size) V1 w')) (by kernel_rfl) ?_
  change wpAnyH _ _ _ _ _ _ _ _ V1.drew
  have hy : Below V1.heap.size V1 V1.drew := (Below.refl _ _).drew
  have hE0 : Below (V1.heap.size) V1 V1.drew := (Below.refl _ _).drew
  clear hy
  generalize V1.drew = Y1x0 at hE0  ⊢
  have E0 := Lib.hid hE0
  clear hE0
  refine tkA 0 (?_) ?_ E0.out ?_
  rotate_left
  · (intro w1 hS; go_simp; try with_reducible rfl)
  simp only [Act.put, tS1, tS2, tS3]
  refine tkA 1 (?_) ?_ E0.out ?_
  rotate_left
  · (intro w1 hS; go_simp; try with_reducible rfl)
  simp only [Act.put, tS1, tS2, tS3]
  refine tkA 2 (?_) ?_ E0.out ?_
  rotate_left
  · (intro w1 hS; go_simp; try with_reducible rfl)
  simp only [Act.put, tS1, tS2, tS3]
  refine tkA 3 (?_) ?_ E0.out ?_
  rotate_left
  · (intro w1 hS; go_simp; try with_reducible rfl)
  simp only [Act.put, tS1, tS2, tS3]
  refine tkA 4 (?_) ?_ E0.out ?_
  rotate_left
  · (intro w1 hS; have hW := hS; have q := ((P.out.below hW P.out.lt).cell 0).trans P0.out; clear hW hS; go_simp; try with_reducible rfl)
  simp only [Act.put, tS1, tS2, tS3]
  refine tkA 5 (?_) ?_ E0.out ?_
  rotate_left
  · (intro w1 hS; go_simp; try with_reducible rfl)
  simp only [Act.put, tS1, tS2, tS3]
  refine tkA 6 (?_) ?_ E0.out ?_
  rotate_left
  · (intro w1 hS; go_simp; try with_reducible rfl)
  simp only [Act.put, tS1, tS2, tS3]
  refine tkA 7 (?_) ?_ E0.out ?_
  rotate_left
  · (intro w1 hS; go_simp; try with_reducible rfl)
  simp only [Act.put, tS1, tS2, tS3]
  refine tkA 8 (?_) ?_ E0.out ?_
  rotate_left
  · (intro w1 hS; go_simp; try with_reducible rfl)
  simp only [Act.put, tS1, tS2, tS3]
  refine tkA 9 (?_) ?_ E0.out ?_
  rotate_left
  · (intro w1 hS; have hW := hS; have q := ((P.out.below hW P.out.lt).cell 0).trans P0.out; clear hW hS; go_simp; try with_reducible rfl)
  simp only [Act.put, tS1, tS2, tS3]
  refine tkA 10 (?_) ?_ E0.out ?_
  rotate_left
  · (intro w1 hS; go_simp; try with_reducible rfl)
  simp only [Act.put, tS1, tS2, tS3]
  refine tkA 11 (?_) ?_ E0.out ?_
  rotate_left
  · (intro w1 hS; go_simp; try with_reducible rfl)
  simp only [Act.put, tS1, tS2, tS3]
  refine tkA 12 (?_) ?_ E0.out ?_
  rotate_left
  · (intro w1 hS; go_simp; try with_reducible rfl)
  simp only [Act.put, tS1, tS2, tS3]
  refine tkA 13 (?_) ?_ E0.out ?_
  rotate_left
  · (intro w1 hS; have hW := hS; have q := ((G.out.below hW G.out.lt).cell 0).trans G0.out; clear hW hS; go_simp; try with_reducible rfl)
  simp only [Act.put, tS1, tS2, tS3]
  refine tkA 14 (?_) ?_ E0.out ?_
  rotate_left
  · (intro w1 hS; go_simp; try with_reducible rfl)
  simp only [Act.put, tS1, tS2, tS3]
  refine tkA 15 (?_) ?_ E0.out ?_
  rotate_left
  · (intro w1 hS; go_simp; try with_reducible rfl)
  simp only [Act.put, tS1, tS2, tS3]
  refine tkA 16 (?_) ?_ E0.out ?_
  rotate_left
  · (intro w1 hS; go_simp; try with_reducible rfl)
  simp only [Act.put, tS1, tS2, tS3]
  refine wpAnyH_done (by kernel_rfl) ?_ _
  have hy := E0.out
  replace K := Lib.hid (K.out.trans (hy.mono K.out.size))
  replace G := Lib.hid (G.out.below hy G.out.lt)
  replace R := Lib.hid (R.out.below hy R.out.lt)
  replace P := Lib.hid (P.out.below hy P.out.lt)
  clear hy E0
  go_wp2_with fail
  refine wp_region_held (S := (fun w' : World => Below (Y1x0.heap.size) Y1x0 w')) (by kernel_rfl) ?_
  change wpAnyH _ _ _ _ _ _ _ _ Y1x0.drew
  have hy : Below Y1x0.heap.size Y1x0 Y1x0.drew := (Below.refl _ _).drew
  have hE0 : Below (Y1x0.heap.size) Y1x0 Y1x0.drew := (Below.refl _ _).drew
  clear hy
  generalize Y1x0.drew = Y3x0 at hE0  ⊢
  have E0 := Lib.hid hE0
  clear hE0
  refine tkA 0 (?_) ?_ E0.out ?_
  rotate_left
  · (intro w1 hS; go_simp; try with_reducible rfl)
  simp only [Act.put, tS1, tS2, tS3]
  refine tkA 1 (?_) ?_ E0.out ?_
  rotate_left
  · (intro w1 hS; have hW := hS; have q := ((P.out.below hW P.out.lt).cell 1).trans P1.out; clear hW hS; go_simp; try with_reducible rfl)
  simp only [Act.put, tS1, tS2, tS3]
  refine tkA 2 (?_) ?_ E0.out ?_
  rotate_left
  · (intro w1 hS; go_simp; try with_reducible rfl)
  simp only [Act.put, tS1, tS2, tS3]
  refine tkA 3 (?_) ?_ E0.out ?_
  rotate_left
  · (intro w1 hS; go_simp; try with_reducible rfl)
  simp only [Act.put, tS1, tS2, tS3]
  refine tkA 4 (?_) ?_ E0.out ?_
  rotate_left
  · (intro w1 hS; go_simp; try with_reducible rfl)
  simp only [Act.put, tS1, tS2, tS3]
  refine tkA 5 (?_) ?_ E0.out ?_
  rotate_left
  · (intro w1 hS; have hW := hS; have q := ((P.out.below hW P.out.lt).cell 1).trans P1.out; clear hW hS; go_simp; try with_reducible rfl)
  simp only [Act.put, tS1, tS2, tS3]
  refine tkA 6 (?_) ?_ E0.out ?_
  rotate_left
  · (intro w1 hS; go_simp; try with_reducible rfl)
  simp only [Act.put, tS1, tS2, tS3]
  refine tkA 7 (?_) ?_ E0.out ?_
  rotate_left
  · (intro w1 hS; go_simp; try with_reducible rfl)
  simp only [Act.put, tS1, tS2, tS3]
  refine tkA 8 (?_) ?_ E0.out ?_
  rotate_left
  · (intro w1 hS; go_simp; try with_reducible rfl)
  simp only [Act.put, tS1, tS2, tS3]
  refine tkA 9 (?_) ?_ E0.out ?_
  rotate_left
  · (intro w1 hS; have hW := hS; have q := ((G.out.below hW G.out.lt).cell 0).trans G0.out; clear hW hS; go_simp; try with_reducible rfl)
  simp only [Act.put, tS1, tS2, tS3]
  refine tkA 10 (?_) ?_ E0.out ?_
  rotate_left
  · (intro w1 hS; go_simp; try with_reducible rfl)
  simp only [Act.put, tS1, tS2, tS3]
  refine tkA 11 (?_) ?_ E0.out ?_
  rotate_left
  · (intro w1 hS; have hW := hS; have q := ((P.out.below hW P.out.lt).cell 0).trans P0.out; clear hW hS; go_simp; try with_reducible rfl)
  simp only [Act.put, tS1, tS2, tS3]
  refine tkA 12 (?_) ?_ E0.out ?_
  rotate_left
  · (intro w1 hS; go_simp; try with_reducible rfl)
  simp only [Act.put, tS1, tS2, tS3]
  refine tkA 13 (?_) ?_ E0.out ?_
  rotate_left
  · (intro w1 hS; have hW := hS; have q := ((R.out.below hW R.out.lt).cell s).trans (HD.out s hs1); clear hW hS; go_simp; try with_reducible rfl)
  simp only [Act.put, tS1, tS2, tS3]
  refine tkA 14 (?_) ?_ E0.out ?_
  rotate_left
  · (intro w1 hS; go_simp; try with_reducible rfl)
  simp only [Act.put, tS1, tS2, tS3]
  refine tkA 15 (?_) ?_ E0.out ?_
  rotate_left
  · (intro w1 hS; go_simp; try with_reducible rfl)
  simp only [Act.put, tS1, tS2, tS3]
  refine tkA 16 (?_) ?_ E0.out ?_
  rotate_left
  · (intro w1 hS; go_simp; try with_reducible rfl)
  simp only [Act.put, tS1, tS2, tS3]
  refine tkA 17 (?_) ?_ E0.out ?_
  rotate_left
  · (intro w1 hS; go_simp; try with_reducible rfl)
  simp only [Act.put, tS1, tS2, tS3]
  refine wpAnyH_done (by kernel_rfl) ?_ _
  have hy := E0.out
  replace K := Lib.hid (K.out.trans (hy.mono K.out.size))
  replace G := Lib.hid (G.out.below hy G.out.lt)
  replace R := Lib.hid (R.out.below hy R.out.lt)
  replace P := Lib.hid (P.out.below hy P.out.lt)
  clear hy E0
  go_wp2
  go_ret
  exact ⟨rfl, K.out⟩
theorem inS_any (B st sz : Nat) (c : Nat → Option ByteArray) (a b : Int) (w : World) (h : GdS B st sz c w) :
    Calls Try.prog 28 #[.pointer (some ⟨B + 1, 0, none⟩), .agg (plA a b)] w fun e w' => e = .returned (.bool (decide (inP st sz a b))) ∧ Below w.heap.size w w' := by
  by_cases hy : inP st sz a b
  · rw [decide_eq_true hy]; exact inS_yes B st sz c a b hy w h
  · rw [decide_eq_false hy]
    unfold inP at hy
    by_cases h1 : a < 0
    · exact inS_lo B st sz c a b h1 w h
    by_cases h2 : (st : Int) ≤ a
    · exact inS_hi B st sz c a b ⟨by omega, h2⟩ w h
    by_cases h3 : b < 0
    · exact inS_blo B st sz c a b ⟨by omega, by omega, h3⟩ w h
    · exact inS_bhi B st sz c a b ⟨by omega, by omega, by omega⟩ w h
set_option maxRecDepth 100000 in
set_option maxHeartbeats 4000000 in
theorem inS_nil (a b : Int) (w : World) :
    Calls Try.prog 28 #[.pointer none, .agg (plA a b)] w fun e w' => e = .returned (.bool false) ∧ Below w.heap.size w w' := by
  have K := Lib.hid (Below.refl w.heap.size w)
  have PI := Lib.hid (plA_i a b)
  generalize plA a b = pc at *
  have hq := eqgS_none
  go_enter Try.func28, Try.ntmps28
  have hal := (Below.refl w.heap.size w).alloc (Nat.le_refl _) (.cells pc 30)
  replace K := Lib.hid (K.out.trans (hal.mono K.out.size))
  have P := Lib.hid (Blk.new w 30 pc)
  clear hal
  go_wp2_with fail
  have hzV1 : Hid ((w.alloc (.cells pc 30)).heap.size = w.heap.size + 1) := by show _ = _; simp only [World.size_alloc]
  generalize (w.alloc (.cells pc 30)) = V1 at *
  refine wp_region_held (S := (fun w' : World => Below (V1.heap.size) V1 w')) (by kernel_rfl) ?_
  change wpAnyH _ _ _ _ _ _ _ _ V1.drew
  have hy : Below V1.heap.size V1 V1.drew := (Below.refl _ _).drew
  have hE0 : Below (V1.heap.size) V1 V1.drew := (Below.refl _ _).drew
  clear hy
  generalize V1.drew = Y1x0 at hE0  ⊢
  have E0 := Lib.hid hE0
  clear hE0
  refine tkA 0 (?_) ?_ E0.out ?_
  rotate_left
  · (intro w1 hS; go_simp; try with_reducible rfl)
  simp only [Act.put, tS1, tS2, tS3]
  refine tkA 1 (?_) ?_ E0.out ?_
  rotate_left
  · (intro w1 hS; go_simp; try with_reducible rfl)
  simp only [Act.put, tS1, tS2, tS3]
  refine tkA 2 (?_) ?_ E0.out ?_
  rotate_left
  · (intro w1 hS; go_simp; try with_reducible rfl)
  simp only [Act.put, tS1, tS2, tS3]
  refine tkN 3 E0.out ?_
  simp only [Act.put, tS1, tS2, tS3]
  refine tkN 4 E0.out ?_
  simp only [Act.put, tS1, tS2, tS3]
  refine tkN 5 E0.out ?_
  simp only [Act.put, tS1, tS2, tS3]
  refine tkA 6 (?_) ?_ E0.out ?_
  rotate_left
  · (intro w1 hS; go_simp; try with_reducible rfl)
  simp only [Act.put, tS1, tS2, tS3]
  refine tkA 7 (?_) ?_ E0.out ?_
  rotate_left
  · (intro w1 hS; go_simp; try with_reducible rfl)
  simp only [Act.put, tS1, tS2, tS3]
  refine tkN 8 E0.out ?_
  simp only [Act.put, tS1, tS2, tS3]
  refine tkN 9 E0.out ?_
  simp only [Act.put, tS1, tS2, tS3]
  refine tkN 10 E0.out ?_
  simp only [Act.put, tS1, tS2, tS3]
  refine tkN 11 E0.out ?_
  simp only [Act.put, tS1, tS2, tS3]
  refine tkN 12 E0.out ?_
  simp only [Act.put, tS1, tS2, tS3]
  refine tkN 13 E0.out ?_
  simp only [Act.put, tS1, tS2, tS3]
  refine tkN 14 E0.out ?_
  simp only [Act.put, tS1, tS2, tS3]
  refine tkN 15 E0.out ?_
  simp only [Act.put, tS1, tS2, tS3]
  refine tkA 16 (?_) ?_ E0.out ?_
  rotate_left
  · (intro w1 hS; go_simp; try with_reducible rfl)
  simp only [Act.put, tS1, tS2, tS3]
  refine wpAnyH_done (by kernel_rfl) ?_ _
  have hy := E0.out
  replace K := Lib.hid (K.out.trans (hy.mono K.out.size))
  replace P := Lib.hid (P.out.below hy P.out.lt)
  clear hy E0
  go_wp2
  go_ret
  exact ⟨rfl, K.out⟩
end Go.Proofs.Ytimnmdeiiahakaa
