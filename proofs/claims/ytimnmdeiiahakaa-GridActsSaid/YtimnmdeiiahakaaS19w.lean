/- bazaarlaw15.awake. -/
import Derived.Test.YtimnmdeiiahakaaS19n
import Derived.Deep.CutBlock
import Derived.Deep.DeepCutAuto
import Derived.LoopTactic
import Derived.Handy
namespace Go.Proofs.Ytimnmdeiiahakaa
open Go.RowKit Go.Lib

theorem new23 (w : World) : Calls Try.prog 23 #[.int .i64 2, .int .i64 3] w fun e w' => e = .returned (.tuple #[.pointer (some ⟨w.heap.size + 1, 0, none⟩), .int .i64 0]) ∧ GdS w.heap.size 2 3 (fun _ => none) w' ∧ Below w.heap.size w w' := newS_yes 2 3 (by omega) (by omega) (by omega) (by omega) w
theorem new53 (w : World) : Calls Try.prog 8 #[.int .i64 5, .int .i64 3] w fun e w' => e = .returned (.tuple #[.pointer none, .int .i64 1]) ∧ Below w.heap.size w w' := newI_no 5 3 (by omega) w
theorem set12 (v : ByteArray) (B : Nat) (c : Nat → Option ByteArray) (w : World) (h : GdS B 2 3 c w) : Calls Try.prog 24 #[.pointer (some ⟨B + 1, 0, none⟩), .agg #[.int .i64 1, .int .i64 2], .string v] w fun e w' => e = .returned (.bool true) ∧ GdS B 2 3 (putC c 5 (some v)) w' ∧ Apart B (2 + 2) w w' := setS_in B 2 3 c 1 2 (by omega) (by omega) v w h
theorem set20 (v : ByteArray) (B : Nat) (c : Nat → Option ByteArray) (w : World) (h : GdS B 2 3 c w) : Calls Try.prog 24 #[.pointer (some ⟨B + 1, 0, none⟩), .agg #[.int .i64 2, .int .i64 0], .string v] w fun e w' => e = .returned (.bool false) ∧ Below w.heap.size w w' := setS_no B 2 3 c 2 0 (by unfold inP; omega) v w h
theorem get12 (B : Nat) (c : Nat → Option ByteArray) (w : World) (h : GdS B 2 3 c w) : Calls Try.prog 25 #[.pointer (some ⟨B + 1, 0, none⟩), .agg #[.int .i64 1, .int .i64 2]] w fun e w' => e = .returned (.tuple #[.string ((c 5).getD { data := #[] }), .bool (c 5).isSome]) ∧ Below w.heap.size w w' := getS_in B 2 3 c 1 2 (by omega) (by omega) w h
theorem free12 (v : ByteArray) (B : Nat) (c : Nat → Option ByteArray) (hc : c 5 = some v) (w : World) (h : GdS B 2 3 c w) : Calls Try.prog 26 #[.pointer (some ⟨B + 1, 0, none⟩), .agg #[.int .i64 1, .int .i64 2]] w fun e w' => e = .returned (.bool true) ∧ GdS B 2 3 (putC c 5 none) w' ∧ Apart B (2 + 2) w w' := freeS_in B 2 3 c 1 2 (by omega) (by omega) v hc w h
theorem free12n (B : Nat) (c : Nat → Option ByteArray) (hc : c 5 = none) (w : World) (h : GdS B 2 3 c w) : Calls Try.prog 26 #[.pointer (some ⟨B + 1, 0, none⟩), .agg #[.int .i64 1, .int .i64 2]] w fun e w' => e = .returned (.bool false) ∧ Below w.heap.size w w' := freeS_none B 2 3 c 1 2 (by omega) (by omega) hc w h
theorem in12 (B : Nat) (c : Nat → Option ByteArray) (w : World) (h : GdS B 2 3 c w) : Calls Try.prog 28 #[.pointer (some ⟨B + 1, 0, none⟩), .agg #[.int .i64 1, .int .i64 2]] w fun e w' => e = .returned (.bool true) ∧ Below w.heap.size w w' := inS_yes B 2 3 c 1 2 (by unfold inP; omega) w h
theorem in03 (B : Nat) (c : Nat → Option ByteArray) (w : World) (h : GdS B 2 3 c w) : Calls Try.prog 28 #[.pointer (some ⟨B + 1, 0, none⟩), .agg #[.int .i64 0, .int .i64 3]] w fun e w' => e = .returned (.bool false) ∧ Below w.heap.size w w' := inS_bhi B 2 3 c 0 3 (by omega) w h
theorem in12n (w : World) : Calls Try.prog 28 #[.pointer none, .agg #[.int .i64 1, .int .i64 2]] w fun e w' => e = .returned (.bool false) ∧ Below w.heap.size w w' := inS_nil 1 2 w
theorem set12n (v : ByteArray) (w : World) : Calls Try.prog 24 #[.pointer none, .agg #[.int .i64 1, .int .i64 2], .string v] w fun e w' => e = .returned (.bool false) ∧ Below w.heap.size w w' := setS_nil 1 2 v w
theorem len0 (B : Nat) (c : Nat → Option ByteArray) (hc : itF c 0 6 = []) (w : World) (h : GdS B 2 3 c w) : Calls Try.prog 27 #[.pointer (some ⟨B + 1, 0, none⟩)] w fun e w' => e = .returned (.int .i64 0) ∧ Below w.heap.size w w' := by
  have := lenS_any B 2 3 c w h
  rw [show 2 * 3 = 6 from rfl, hc] at this
  exact this
def cA : Nat → Option ByteArray := putC (fun _ => none) 5 (some { data := #[120] })
theorem cA5 : cA 5 = some { data := #[120] } := rfl
def cB : Nat → Option ByteArray := putC cA 5 none
theorem cB5 : cB 5 = none := rfl
theorem getA (B : Nat) (w : World) (h : GdS B 2 3 cA w) : Calls Try.prog 25 #[.pointer (some ⟨B + 1, 0, none⟩), .agg #[.int .i64 1, .int .i64 2]] w fun e w' => e = .returned (.tuple #[.string { data := #[120] }, .bool true]) ∧ Below w.heap.size w w' := get12 B cA w h
theorem cB0 : itF cB 0 6 = [] := by
  have : cB = fun _ => none := by
    funext j
    unfold cB cA putC
    split <;> rfl
  rw [this, itF_none]
theorem eq59 (p : Addr) (W : World) : (binOp .eql 59 (.pointer (some p)) (.pointer none)).run Try.prog W = .ok (.bool false) W := by kernel_rfl
theorem i30b : (Try.prog.info? 30).map (·.size) = some (#[Value.int .i64 1, .int .i64 2] : Array Value).size := by kernel_rfl
set_option maxRecDepth 100000 in
set_option maxHeartbeats 4000000 in
theorem awake_any (w : World) : Calls Try.prog 7 #[] w fun e w' => e = .returned (.bool true) ∧ Below w.heap.size w w' := by
  have K := Lib.hid (Below.refl w.heap.size w)
  have CN := Lib.hid new23
  have CN5 := Lib.hid new53
  have CS := Lib.hid (set12 { data := #[120] })
  have CS2 := Lib.hid (set20 { data := #[121] })
  have CG := Lib.hid getA
  have CF := Lib.hid (free12 { data := #[120] })
  have CFN := Lib.hid free12n
  have CI := Lib.hid in12
  have CI3 := Lib.hid in03
  have CIN := Lib.hid in12n
  have CSN := Lib.hid (set12n { data := #[122] })
  have CL := Lib.hid len0
  have CLN := Lib.hid lenS_nil
  have IP := Lib.hid i30b
  have hq := eq59
  go_enter Try.func7, Try.ntmps7
  go_wp2_with fail
  obtain ⟨B, hB⟩ : ∃ B, B = w.heap.size := ⟨_, rfl⟩
  have hB1 := K.out.size
  refine (CN.out w).mono ?_
  rintro e V1 ⟨rfl, hg, hy⟩
  replace K := Lib.hid (K.out.trans (hy.mono K.out.size))
  have HG := Lib.hid (hg)
  rw [← hB] at HG ⊢
  clear hg
  clear hy
  have hB2 : w.heap.size ≤ B := by omega
  clear hB hB1
  go_wp2_with fail
  refine (CN5.out V1).mono ?_
  rintro e V2 ⟨rfl, hy⟩
  replace K := Lib.hid (K.out.trans (hy.mono K.out.size))
  replace HG := Lib.hid (HG.out.below hy)
  clear hy
  go_upto_region 6 with fail
  have hl := HG.out.lt
  obtain ⟨gP, hgP⟩ : ∃ g, g = V2.heap.size := ⟨_, rfl⟩
  have hP1 : B + 4 ≤ gP := by omega
  have hal := (Below.refl V2.heap.size V2).alloc (Nat.le_refl _) (.cells #[.int .i64 1, .int .i64 2] 30)
  have pb := Blk.new V2 30 #[.int .i64 1, .int .i64 2]
  rw [← hgP] at pb ⊢
  have PB := Lib.hid pb
  replace K := Lib.hid (K.out.trans (hal.mono K.out.size))
  replace HG := Lib.hid (HG.out.below hal)
  clear hl hgP hal pb
  generalize V2.alloc (.cells #[.int .i64 1, .int .i64 2] 30) = Vb at *
  have L1 : (loadVar 30 ⟨gP, 0, none⟩).run Try.prog Vb = .ok (.agg #[.int .i64 1, .int .i64 2]) Vb := run_blk_load (P := Try.prog) 30 (gP) _ PB.out Try.underlying30 rfl IP.out
  replace L1 := Lib.hid L1
  go_wp2_with (((with_reducible refine wpList_load_want (op := ⟨some 29, .load 30 (.tmp 5), _, _, _, _⟩) ?wg1 30 (.tmp 5) ?wo1 ⟨gP, 0, none⟩ ?wx1 (.agg #[.int .i64 1, .int .i64 2]) L1.out ?_); (case wg1 => rfl); (case wo1 => rfl); (case wx1 => rfl)))
  clear L1
  refine (CS.out B _ Vb HG.out).mono ?_
  rintro e V3 ⟨rfl, hg, ha⟩
  replace K := Lib.hid (K.out.trans (ha.below (by omega) K.out.size))
  replace PB := Lib.hid (ha.blk PB.out (by omega))
  replace HG := Lib.hid hg
  clear hg
  clear ha
  have HG : Hid (GdS B 2 3 cA V3) := HG
  go_wp2_with fail
  refine (CS2.out B cA V3 HG.out).mono ?_
  rintro e V4 ⟨rfl, hy⟩
  replace K := Lib.hid (K.out.trans (hy.mono K.out.size))
  replace HG := Lib.hid (HG.out.below hy)
  replace PB := Lib.hid (PB.out.below hy PB.out.lt)
  clear hy
  have L2 : (loadVar 30 ⟨gP, 0, none⟩).run Try.prog V4 = .ok (.agg #[.int .i64 1, .int .i64 2]) V4 := run_blk_load (P := Try.prog) 30 (gP) _ PB.out Try.underlying30 rfl IP.out
  replace L2 := Lib.hid L2
  go_wp2_with (((with_reducible refine wpList_load_want (op := ⟨some 36, .load 30 (.tmp 5), _, _, _, _⟩) ?wg2 30 (.tmp 5) ?wo2 ⟨gP, 0, none⟩ ?wx2 (.agg #[.int .i64 1, .int .i64 2]) L2.out ?_); (case wg2 => rfl); (case wo2 => rfl); (case wx2 => rfl)))
  clear L2
  refine (CG.out B V4 HG.out).mono ?_
  rintro e V5 ⟨rfl, hy⟩
  replace K := Lib.hid (K.out.trans (hy.mono K.out.size))
  replace HG := Lib.hid (HG.out.below hy)
  replace PB := Lib.hid (PB.out.below hy PB.out.lt)
  clear hy
  go_wp2_with fail
  go_wp2_with fail
  refine wp_region_held (S := (fun w' : World => Blk w' (gP) 30 #[.int .i64 1, .int .i64 2])) (by kernel_rfl) ?_
  change wpAnyH _ _ _ _ _ _ _ _ V5.drew
  have hy : Below V5.heap.size V5 V5.drew := (Below.refl _ _).drew
  replace K := Lib.hid (K.out.trans (hy.mono K.out.size))
  replace HG := Lib.hid (HG.out.below hy)
  replace PB := Lib.hid (PB.out.below hy PB.out.lt)
  clear hy
  generalize V5.drew = Y8h0 at *
  refine tkA 0 (?_) ?_ PB.out ?_
  rotate_left
  · (intro w1 hS; go_simp; try with_reducible rfl)
  simp only [Act.put, tS1, tS2, tS3]
  refine tkA 1 (.agg #[.int .i64 1, .int .i64 2]) ?_ PB.out ?_
  · (intro w1 hS; exact exec_load 30 (.tmp 5) rfl _ rfl _ (run_blk_load (P := Try.prog) 30 (gP) _ hS Try.underlying30 rfl IP.out))
  simp only [Act.put, tS1, tS2, tS3]
  refine tkA 3 (?_) ?_ PB.out ?_
  rotate_left
  · (intro w1 hS; go_simp; try with_reducible rfl)
  simp only [Act.put, tS1, tS2, tS3]
  refine tkA 4 (.agg #[.int .i64 1, .int .i64 2]) ?_ PB.out ?_
  · (intro w1 hS; exact exec_load 30 (.tmp 5) rfl _ rfl _ (run_blk_load (P := Try.prog) 30 (gP) _ hS Try.underlying30 rfl IP.out))
  simp only [Act.put, tS1, tS2, tS3]
  refine tkO 2 (fun KK hK => ?_)
  go_simp
  refine (CF.out B cA cA5 Y8h0 HG.out).mono ?_
  rintro e Y8h1 ⟨rfl, hg, ha⟩
  replace K := Lib.hid (K.out.trans (ha.below (by omega) K.out.size))
  replace PB := Lib.hid (ha.blk PB.out (by omega))
  replace HG := Lib.hid hg
  clear hg
  clear ha
  have HG : Hid (GdS B 2 3 cB Y8h1) := HG
  refine hK.out _ _ PB.out (fun _ => ?_)
  clear hK KK
  try simp only [Act.put, tS1, tS2, tS3]
  refine tkO 5 (fun KK hK => ?_)
  go_simp
  refine (CFN.out B cB cB5 Y8h1 HG.out).mono ?_
  rintro e Y8h2 ⟨rfl, hy⟩
  replace K := Lib.hid (K.out.trans (hy.mono K.out.size))
  replace HG := Lib.hid (HG.out.below hy)
  replace PB := Lib.hid (PB.out.below hy PB.out.lt)
  clear hy
  refine hK.out _ _ PB.out (fun _ => ?_)
  clear hK KK
  try simp only [Act.put, tS1, tS2, tS3]
  refine tkA 6 (?_) ?_ PB.out ?_
  rotate_left
  · (intro w1 hS; go_simp; try with_reducible rfl)
  simp only [Act.put, tS1, tS2, tS3]
  refine tkA 7 (?_) ?_ PB.out ?_
  rotate_left
  · (intro w1 hS; go_simp; try with_reducible rfl)
  simp only [Act.put, tS1, tS2, tS3]
  refine wpAnyH_done (by kernel_rfl) ?_ _
  go_wp2_with fail
  refine (CL.out B cB cB0 Y8h2 HG.out).mono ?_
  rintro e V6 ⟨rfl, hy⟩
  replace K := Lib.hid (K.out.trans (hy.mono K.out.size))
  replace HG := Lib.hid (HG.out.below hy)
  replace PB := Lib.hid (PB.out.below hy PB.out.lt)
  clear hy
  have L3 : (loadVar 30 ⟨gP, 0, none⟩).run Try.prog V6 = .ok (.agg #[.int .i64 1, .int .i64 2]) V6 := run_blk_load (P := Try.prog) 30 (gP) _ PB.out Try.underlying30 rfl IP.out
  replace L3 := Lib.hid L3
  go_wp2_with (((with_reducible refine wpList_load_want (op := ⟨some 76, .load 30 (.tmp 5), _, _, _, _⟩) ?wg3 30 (.tmp 5) ?wo3 ⟨gP, 0, none⟩ ?wx3 (.agg #[.int .i64 1, .int .i64 2]) L3.out ?_); (case wg3 => rfl); (case wo3 => rfl); (case wx3 => rfl)))
  clear L3
  refine (CI.out B cB V6 HG.out).mono ?_
  rintro e V7 ⟨rfl, hy⟩
  replace K := Lib.hid (K.out.trans (hy.mono K.out.size))
  replace HG := Lib.hid (HG.out.below hy)
  replace PB := Lib.hid (PB.out.below hy PB.out.lt)
  clear hy
  go_wp2_with fail
  refine (CI3.out B cB V7 HG.out).mono ?_
  rintro e V8 ⟨rfl, hy⟩
  replace K := Lib.hid (K.out.trans (hy.mono K.out.size))
  replace HG := Lib.hid (HG.out.below hy)
  replace PB := Lib.hid (PB.out.below hy PB.out.lt)
  clear hy
  have L4 : (loadVar 30 ⟨gP, 0, none⟩).run Try.prog V8 = .ok (.agg #[.int .i64 1, .int .i64 2]) V8 := run_blk_load (P := Try.prog) 30 (gP) _ PB.out Try.underlying30 rfl IP.out
  replace L4 := Lib.hid L4
  go_wp2_with (((with_reducible refine wpList_load_want (op := ⟨some 87, .load 30 (.tmp 5), _, _, _, _⟩) ?wg4 30 (.tmp 5) ?wo4 ⟨gP, 0, none⟩ ?wx4 (.agg #[.int .i64 1, .int .i64 2]) L4.out ?_); (case wg4 => rfl); (case wo4 => rfl); (case wx4 => rfl)))
  clear L4
  refine (CIN.out V8).mono ?_
  rintro e V9 ⟨rfl, hy⟩
  replace K := Lib.hid (K.out.trans (hy.mono K.out.size))
  replace HG := Lib.hid (HG.out.below hy)
  replace PB := Lib.hid (PB.out.below hy PB.out.lt)
  clear hy
  go_wp2_with fail
  refine (CLN.out V9).mono ?_
  rintro e V10 ⟨rfl, hy⟩
  replace K := Lib.hid (K.out.trans (hy.mono K.out.size))
  replace HG := Lib.hid (HG.out.below hy)
  replace PB := Lib.hid (PB.out.below hy PB.out.lt)
  clear hy
  have L5 : (loadVar 30 ⟨gP, 0, none⟩).run Try.prog V10 = .ok (.agg #[.int .i64 1, .int .i64 2]) V10 := run_blk_load (P := Try.prog) 30 (gP) _ PB.out Try.underlying30 rfl IP.out
  replace L5 := Lib.hid L5
  go_wp2_with (((with_reducible refine wpList_load_want (op := ⟨some 98, .load 30 (.tmp 5), _, _, _, _⟩) ?wg5 30 (.tmp 5) ?wo5 ⟨gP, 0, none⟩ ?wx5 (.agg #[.int .i64 1, .int .i64 2]) L5.out ?_); (case wg5 => rfl); (case wo5 => rfl); (case wx5 => rfl)))
  clear L5
  refine (CSN.out V10).mono ?_
  rintro e V11 ⟨rfl, hy⟩
  replace K := Lib.hid (K.out.trans (hy.mono K.out.size))
  replace HG := Lib.hid (HG.out.below hy)
  replace PB := Lib.hid (PB.out.below hy PB.out.lt)
  clear hy
  go_wp2
  go_ret
  exact ⟨rfl, K.out⟩
end Go.Proofs.Ytimnmdeiiahakaa
