/- grid's Len, Get, Set, Free, of each kind. -/
import Derived.Test.YtimnmdeiiahakaaS19b
import Derived.Deep.CutBlock
import Derived.Deep.DeepCutAuto
import Derived.LoopTactic
import Derived.Handy
namespace Go.Proofs.Ytimnmdeiiahakaa
open Go.RowKit Go.Lib

/-- What stands at a place; what a put at a place leaves. -/
def lkP {α : Type} (st sz : Nat) (c : Nat → Option α) (a b : Int) : Option α := if inP st sz a b then c (a.toNat * sz + b.toNat) else none
def ptP {α : Type} (st sz : Nat) (c : Nat → Option α) (a b : Int) (v : Option α) : Nat → Option α := if inP st sz a b then putC c (a.toNat * sz + b.toNat) v else c
theorem lkP_in {α : Type} {st sz : Nat} (c : Nat → Option α) {s i : Nat} (hs : s < st) (hi : i < sz) : lkP st sz c s i = c (s * sz + i) := by
  unfold lkP; rw [if_pos ⟨by omega, by omega, by omega, by omega⟩, Int.toNat_natCast, Int.toNat_natCast]
theorem ptP_in {α : Type} {st sz : Nat} (c : Nat → Option α) {s i : Nat} (hs : s < st) (hi : i < sz) (v : Option α) : ptP st sz c s i v = putC c (s * sz + i) v := by
  unfold ptP; rw [if_pos ⟨by omega, by omega, by omega, by omega⟩, Int.toNat_natCast, Int.toNat_natCast]
theorem lkP_no {α : Type} {st sz : Nat} (c : Nat → Option α) {a b : Int} (h : ¬ inP st sz a b) : lkP st sz c a b = none := if_neg h
theorem ptP_no {α : Type} {st sz : Nat} (c : Nat → Option α) {a b : Int} (h : ¬ inP st sz a b) (v : Option α) : ptP st sz c a b v = c := if_neg h
theorem inP_nat {st sz : Nat} {a b : Int} (h : inP st sz a b) : ∃ s i : Nat, a = (s : Int) ∧ b = (i : Int) ∧ s < st ∧ i < sz := by
  obtain ⟨h1, h2, h3, h4⟩ := h
  exact ⟨a.toNat, b.toNat, by omega, by omega, by omega, by omega⟩
theorem num_lt {st sz s i : Nat} (hs : s < st) (hi : i < sz) : s * sz + i < st * sz := plc_lt sz s i hi st hs
theorem len_set {α : Type} (c : Nat → Option α) (n k : Nat) (h : k < n) (v : α) (hc : c k = none) : (itF (putC c k (some v)) 0 n).length = (itF c 0 n).length + 1 := by
  rw [itF_put c n k _ h, itF_at c n k h, hc]; simp; omega
theorem len_again {α : Type} (c : Nat → Option α) (n k : Nat) (h : k < n) (u v : α) (hc : c k = some u) : (itF (putC c k (some v)) 0 n).length = (itF c 0 n).length := by
  rw [itF_put c n k _ h, itF_at c n k h, hc]; simp
theorem len_free {α : Type} (c : Nat → Option α) (n k : Nat) (h : k < n) (u : α) (hc : c k = some u) : (itF (putC c k none) 0 n).length + 1 = (itF c 0 n).length := by
  rw [itF_put c n k _ h, itF_at c n k h, hc]; simp; omega
theorem sz_le {st sz : Nat} (h1 : st ≤ 4) (h2 : sz ≤ 1024) : st * sz ≤ 4096 := Nat.mul_le_mul h1 h2
/-- Behind a put. -/
theorem GS.put {α : Type} {tG tR tC : TypeId} {enc : Option α → List Value} {B st sz : Nat} {c : Nat → Option α} {W W' : World} (h : GS tG tR tC enc B st sz c W) (s i : Nat) (hi : i < sz) (v : Option α) (n : Nat)
    (hn : (itF (putC c (s * sz + i) v) 0 (st * sz)).length = n) (hG : Blk W' (B + 1) tG (grC B st n)) (hC : Blk W' (B + 2 + s) tC (rowC enc (putC c (s * sz + i) v) (s * sz) sz).toArray)
    (hk : ∀ k, k < W.heap.size → k ≠ B + 1 → k ≠ B + 2 + s → W'.heap[k]? = W.heap[k]?) : GS tG tR tC enc B st sz (putC c (s * sz + i) v) W' := by
  have hl := h.lt
  refine ⟨hn ▸ hG, (hk B (by omega) (by omega) (by omega)).trans h.R, fun s' hs' => ?_, h.s1, h.s2, h.z1, h.z2⟩
  by_cases e : s' = s
  · subst e; exact hC
  · rw [rowC_far enc c (s' * sz) sz (s * sz + i) ?_ v]
    · exact (hk _ (by omega) (by omega) (by omega)).trans (h.C s' hs')
    · rcases Nat.lt_or_ge s s' with q | q
      · exact .inl (plc_lt sz s i hi s' q)
      · right
        have := Nat.mul_le_mul_right sz (show s' + 1 ≤ s by omega)
        rw [Nat.succ_mul] at this; omega
theorem GS.cellAt {α : Type} {tG tR tC : TypeId} {enc : Option α → List Value} {B st sz : Nat} {c : Nat → Option α} {W : World} (h : GS tG tR tC enc B st sz c W) (m : Nat) (he : ∀ o, (enc o).length = m) (s i j : Nat) (hs : s < st) (hi : i < sz) (hj : j < m) : W.cell? ⟨B + 2 + s, i * m + j, none⟩ = (enc (c (s * sz + i)))[j]? := by
  rw [(h.C s hs).cell, List.getElem?_toArray, rowC_get enc m he c (s * sz) sz i j hi hj]
theorem eqcI_none (W : World) : (binOp .eql 69 (.pointer none) (.pointer none)).run Try.prog W = .ok (.bool true) W := by kernel_rfl
theorem eqcI_some (p : Addr) (W : World) : (binOp .eql 69 (.pointer (some p)) (.pointer none)).run Try.prog W = .ok (.bool false) W := by kernel_rfl
theorem i72 : (Try.prog.info? 72).map (·.size) = some 2 := by kernel_rfl
theorem eqcA_none (W : World) : (binOp .eql 80 (.pointer none) (.pointer none)).run Try.prog W = .ok (.bool true) W := by kernel_rfl
theorem eqcA_some (p : Addr) (W : World) : (binOp .eql 80 (.pointer (some p)) (.pointer none)).run Try.prog W = .ok (.bool false) W := by kernel_rfl
theorem i83 : (Try.prog.info? 83).map (·.size) = some 3 := by kernel_rfl
theorem eqcS_none (W : World) : (binOp .eql 88 (.pointer none) (.pointer none)).run Try.prog W = .ok (.bool true) W := by kernel_rfl
theorem eqcS_some (p : Addr) (W : World) : (binOp .eql 88 (.pointer (some p)) (.pointer none)).run Try.prog W = .ok (.bool false) W := by kernel_rfl
theorem i91 : (Try.prog.info? 91).map (·.size) = some 2 := by kernel_rfl
theorem i46 : (Try.prog.info? 46).map (·.size) = some 2 := by kernel_rfl
set_option maxRecDepth 100000 in
set_option maxHeartbeats 4000000 in
theorem lenI_any (B st sz : Nat) (c : Nat → Option Int) (w : World) (h : GdI B st sz c w) :
    Calls Try.prog 15 #[.pointer (some ⟨B + 1, 0, none⟩)] w fun e w' => e = .returned (.int .i64 ((itF c 0 (st * sz)).length : Int)) ∧ Below w.heap.size w w' := by
  have K := Lib.hid (Below.refl w.heap.size w)
  have c1 := (h.G.cell 1).trans (grC_get B st (itF c 0 (st * sz)).length).2
  have hq := eqgI_some ⟨B + 1, 0, none⟩
  generalize (itF c 0 (st * sz)).length = n at *
  clear h
  go_enter Try.func15, Try.ntmps15
  go_wp2
  go_ret
  exact ⟨rfl, K.out⟩
set_option maxRecDepth 100000 in
set_option maxHeartbeats 4000000 in
theorem getI_no (B st sz : Nat) (c : Nat → Option Int) (a b : Int) (h1 : ¬ inP st sz a b) (w : World) (h : GdI B st sz c w) :
    Calls Try.prog 12 #[.pointer (some ⟨B + 1, 0, none⟩), .agg (plA a b)] w fun e w' => e = .returned (.tuple #[.int .i64 0, .bool false]) ∧ Below w.heap.size w w' := by
  have K := Lib.hid (Below.refl w.heap.size w)
  have HG := Lib.hid h
  have CC := Lib.hid (fun W h => cellI_no B st sz c a b h1 W h)
  clear h h1
  have PI := Lib.hid (plA_i a b)
  generalize plA a b = pc at *
  have hq := eqcI_none
  go_enter Try.func12, Try.ntmps12
  have hal := (Below.refl w.heap.size w).alloc (Nat.le_refl _) (.cells pc 30)
  replace K := Lib.hid (K.out.trans (hal.mono K.out.size))
  replace HG := Lib.hid (HG.out.below hal)
  have P := Lib.hid (Blk.new w 30 pc)
  clear hal
  have L1 : (loadVar 30 ⟨w.heap.size, 0, none⟩).run Try.prog (w.alloc (.cells pc 30)) = .ok (.agg pc) (w.alloc (.cells pc 30)) := run_blk_load (P := Try.prog) 30 (w.heap.size) _ P.out Try.underlying30 rfl PI.out
  replace L1 := Lib.hid L1
  go_wp2_with (((with_reducible refine wpList_load_want (op := ⟨some 9, .load 30 (.tmp 3), _, _, _, _⟩) ?wg1 30 (.tmp 3) ?wo1 ⟨w.heap.size, 0, none⟩ ?wx1 (.agg pc) L1.out ?_); (case wg1 => rfl); (case wo1 => rfl); (case wx1 => rfl)))
  clear L1
  have hzV1 : Hid ((w.alloc (.cells pc 30)).heap.size = w.heap.size + 1) := by show _ = _; simp only [World.size_alloc]
  generalize (w.alloc (.cells pc 30)) = V1 at *
  refine (CC.out V1 HG.out).mono ?_
  rintro e V2 ⟨rfl, hy⟩
  replace K := Lib.hid (K.out.trans (hy.mono K.out.size))
  replace HG := Lib.hid (HG.out.below hy)
  replace P := Lib.hid (P.out.below hy P.out.lt)
  clear hy
  go_wp2
  go_ret2
  exact ⟨rfl, K.out⟩
set_option maxRecDepth 100000 in
set_option maxHeartbeats 4000000 in
theorem setI_no (B st sz : Nat) (c : Nat → Option Int) (a b : Int) (h1 : ¬ inP st sz a b) (v : Int) (w : World) (h : GdI B st sz c w) :
    Calls Try.prog 10 #[.pointer (some ⟨B + 1, 0, none⟩), .agg (plA a b), .int .i64 v] w fun e w' => e = .returned (.bool false) ∧ Below w.heap.size w w' := by
  have K := Lib.hid (Below.refl w.heap.size w)
  have HG := Lib.hid h
  have CC := Lib.hid (fun W h => cellI_no B st sz c a b h1 W h)
  clear h h1
  have PI := Lib.hid (plA_i a b)
  generalize plA a b = pc at *
  have hq := eqcI_none
  go_enter Try.func10, Try.ntmps10
  have hal := (Below.refl w.heap.size w).alloc (Nat.le_refl _) (.cells pc 30)
  replace K := Lib.hid (K.out.trans (hal.mono K.out.size))
  replace HG := Lib.hid (HG.out.below hal)
  have P := Lib.hid (Blk.new w 30 pc)
  clear hal
  have L2 : (loadVar 30 ⟨w.heap.size, 0, none⟩).run Try.prog (w.alloc (.cells pc 30)) = .ok (.agg pc) (w.alloc (.cells pc 30)) := run_blk_load (P := Try.prog) 30 (w.heap.size) _ P.out Try.underlying30 rfl PI.out
  replace L2 := Lib.hid L2
  go_wp2_with (((with_reducible refine wpList_load_want (op := ⟨some 9, .load 30 (.tmp 4), _, _, _, _⟩) ?wg2 30 (.tmp 4) ?wo2 ⟨w.heap.size, 0, none⟩ ?wx2 (.agg pc) L2.out ?_); (case wg2 => rfl); (case wo2 => rfl); (case wx2 => rfl)))
  clear L2
  have hzV1 : Hid ((w.alloc (.cells pc 30)).heap.size = w.heap.size + 1) := by show _ = _; simp only [World.size_alloc]
  generalize (w.alloc (.cells pc 30)) = V1 at *
  refine (CC.out V1 HG.out).mono ?_
  rintro e V2 ⟨rfl, hy⟩
  replace K := Lib.hid (K.out.trans (hy.mono K.out.size))
  replace HG := Lib.hid (HG.out.below hy)
  replace P := Lib.hid (P.out.below hy P.out.lt)
  clear hy
  go_wp2
  go_ret
  exact ⟨rfl, K.out⟩
set_option maxRecDepth 100000 in
set_option maxHeartbeats 4000000 in
theorem freeI_no (B st sz : Nat) (c : Nat → Option Int) (a b : Int) (h1 : ¬ inP st sz a b) (w : World) (h : GdI B st sz c w) :
    Calls Try.prog 11 #[.pointer (some ⟨B + 1, 0, none⟩), .agg (plA a b)] w fun e w' => e = .returned (.bool false) ∧ Below w.heap.size w w' := by
  have K := Lib.hid (Below.refl w.heap.size w)
  have HG := Lib.hid h
  have CC := Lib.hid (fun W h => cellI_no B st sz c a b h1 W h)
  clear h h1
  have PI := Lib.hid (plA_i a b)
  generalize plA a b = pc at *
  have hq := eqcI_none
  go_enter Try.func11, Try.ntmps11
  have hal := (Below.refl w.heap.size w).alloc (Nat.le_refl _) (.cells pc 30)
  replace K := Lib.hid (K.out.trans (hal.mono K.out.size))
  replace HG := Lib.hid (HG.out.below hal)
  have P := Lib.hid (Blk.new w 30 pc)
  clear hal
  have L3 : (loadVar 30 ⟨w.heap.size, 0, none⟩).run Try.prog (w.alloc (.cells pc 30)) = .ok (.agg pc) (w.alloc (.cells pc 30)) := run_blk_load (P := Try.prog) 30 (w.heap.size) _ P.out Try.underlying30 rfl PI.out
  replace L3 := Lib.hid L3
  go_wp2_with (((with_reducible refine wpList_load_want (op := ⟨some 7, .load 30 (.tmp 3), _, _, _, _⟩) ?wg3 30 (.tmp 3) ?wo3 ⟨w.heap.size, 0, none⟩ ?wx3 (.agg pc) L3.out ?_); (case wg3 => rfl); (case wo3 => rfl); (case wx3 => rfl)))
  clear L3
  have hzV1 : Hid ((w.alloc (.cells pc 30)).heap.size = w.heap.size + 1) := by show _ = _; simp only [World.size_alloc]
  generalize (w.alloc (.cells pc 30)) = V1 at *
  refine (CC.out V1 HG.out).mono ?_
  rintro e V2 ⟨rfl, hy⟩
  replace K := Lib.hid (K.out.trans (hy.mono K.out.size))
  replace HG := Lib.hid (HG.out.below hy)
  replace P := Lib.hid (P.out.below hy P.out.lt)
  clear hy
  go_wp2
  go_ret
  exact ⟨rfl, K.out⟩
set_option maxRecDepth 100000 in
set_option maxHeartbeats 4000000 in
theorem lenA_any (B st sz : Nat) (c : Nat → Option (Int × Int)) (w : World) (h : GdA B st sz c w) :
    Calls Try.prog 20 #[.pointer (some ⟨B + 1, 0, none⟩)] w fun e w' => e = .returned (.int .i64 ((itF c 0 (st * sz)).length : Int)) ∧ Below w.heap.size w w' := by
  have K := Lib.hid (Below.refl w.heap.size w)
  have c1 := (h.G.cell 1).trans (grC_get B st (itF c 0 (st * sz)).length).2
  have hq := eqgA_some ⟨B + 1, 0, none⟩
  generalize (itF c 0 (st * sz)).length = n at *
  clear h
  go_enter Try.func20, Try.ntmps20
  go_wp2
  go_ret
  exact ⟨rfl, K.out⟩
set_option maxRecDepth 100000 in
set_option maxHeartbeats 4000000 in
theorem lenS_any (B st sz : Nat) (c : Nat → Option ByteArray) (w : World) (h : GdS B st sz c w) :
    Calls Try.prog 27 #[.pointer (some ⟨B + 1, 0, none⟩)] w fun e w' => e = .returned (.int .i64 ((itF c 0 (st * sz)).length : Int)) ∧ Below w.heap.size w w' := by
  have K := Lib.hid (Below.refl w.heap.size w)
  have c1 := (h.G.cell 1).trans (grC_get B st (itF c 0 (st * sz)).length).2
  have hq := eqgS_some ⟨B + 1, 0, none⟩
  generalize (itF c 0 (st * sz)).length = n at *
  clear h
  go_enter Try.func27, Try.ntmps27
  go_wp2
  go_ret
  exact ⟨rfl, K.out⟩
set_option maxRecDepth 100000 in
set_option maxHeartbeats 4000000 in
theorem lenS_nil (w : World) :
    Calls Try.prog 27 #[.pointer none] w fun e w' => e = .returned (.int .i64 0) ∧ Below w.heap.size w w' := by
  have K := Lib.hid (Below.refl w.heap.size w)
  have hq := eqgS_none
  go_enter Try.func27, Try.ntmps27
  go_wp2
  go_ret
  exact ⟨rfl, K.out⟩
set_option maxRecDepth 100000 in
set_option maxHeartbeats 4000000 in
theorem getS_no (B st sz : Nat) (c : Nat → Option ByteArray) (a b : Int) (h1 : ¬ inP st sz a b) (w : World) (h : GdS B st sz c w) :
    Calls Try.prog 25 #[.pointer (some ⟨B + 1, 0, none⟩), .agg (plA a b)] w fun e w' => e = .returned (.tuple #[.string { data := #[] }, .bool false]) ∧ Below w.heap.size w w' := by
  have K := Lib.hid (Below.refl w.heap.size w)
  have HG := Lib.hid h
  have CC := Lib.hid (fun W h => cellS_no B st sz c a b h1 W h)
  clear h h1
  have PI := Lib.hid (plA_i a b)
  generalize plA a b = pc at *
  have hq := eqcS_none
  go_enter Try.func25, Try.ntmps25
  have hal := (Below.refl w.heap.size w).alloc (Nat.le_refl _) (.cells pc 30)
  replace K := Lib.hid (K.out.trans (hal.mono K.out.size))
  replace HG := Lib.hid (HG.out.below hal)
  have P := Lib.hid (Blk.new w 30 pc)
  clear hal
  have L4 : (loadVar 30 ⟨w.heap.size, 0, none⟩).run Try.prog (w.alloc (.cells pc 30)) = .ok (.agg pc) (w.alloc (.cells pc 30)) := run_blk_load (P := Try.prog) 30 (w.heap.size) _ P.out Try.underlying30 rfl PI.out
  replace L4 := Lib.hid L4
  go_wp2_with (((with_reducible refine wpList_load_want (op := ⟨some 9, .load 30 (.tmp 3), _, _, _, _⟩) ?wg4 30 (.tmp 3) ?wo4 ⟨w.heap.size, 0, none⟩ ?wx4 (.agg pc) L4.out ?_); (case wg4 => rfl); (case wo4 => rfl); (case wx4 => rfl)))
  clear L4
  have hzV1 : Hid ((w.alloc (.cells pc 30)).heap.size = w.heap.size + 1) := by show _ = _; simp only [World.size_alloc]
  generalize (w.alloc (.cells pc 30)) = V1 at *
  refine (CC.out V1 HG.out).mono ?_
  rintro e V2 ⟨rfl, hy⟩
  replace K := Lib.hid (K.out.trans (hy.mono K.out.size))
  replace HG := Lib.hid (HG.out.below hy)
  replace P := Lib.hid (P.out.below hy P.out.lt)
  clear hy
  go_wp2
  go_ret2
  exact ⟨rfl, K.out⟩
set_option maxRecDepth 100000 in
set_option maxHeartbeats 4000000 in
theorem setS_no (B st sz : Nat) (c : Nat → Option ByteArray) (a b : Int) (h1 : ¬ inP st sz a b) (v : ByteArray) (w : World) (h : GdS B st sz c w) :
    Calls Try.prog 24 #[.pointer (some ⟨B + 1, 0, none⟩), .agg (plA a b), .string v] w fun e w' => e = .returned (.bool false) ∧ Below w.heap.size w w' := by
  have K := Lib.hid (Below.refl w.heap.size w)
  have HG := Lib.hid h
  have CC := Lib.hid (fun W h => cellS_no B st sz c a b h1 W h)
  clear h h1
  have PI := Lib.hid (plA_i a b)
  generalize plA a b = pc at *
  have hq := eqcS_none
  go_enter Try.func24, Try.ntmps24
  have hal := (Below.refl w.heap.size w).alloc (Nat.le_refl _) (.cells pc 30)
  replace K := Lib.hid (K.out.trans (hal.mono K.out.size))
  replace HG := Lib.hid (HG.out.below hal)
  have P := Lib.hid (Blk.new w 30 pc)
  clear hal
  have L5 : (loadVar 30 ⟨w.heap.size, 0, none⟩).run Try.prog (w.alloc (.cells pc 30)) = .ok (.agg pc) (w.alloc (.cells pc 30)) := run_blk_load (P := Try.prog) 30 (w.heap.size) _ P.out Try.underlying30 rfl PI.out
  replace L5 := Lib.hid L5
  go_wp2_with (((with_reducible refine wpList_load_want (op := ⟨some 9, .load 30 (.tmp 4), _, _, _, _⟩) ?wg5 30 (.tmp 4) ?wo5 ⟨w.heap.size, 0, none⟩ ?wx5 (.agg pc) L5.out ?_); (case wg5 => rfl); (case wo5 => rfl); (case wx5 => rfl)))
  clear L5
  have hzV1 : Hid ((w.alloc (.cells pc 30)).heap.size = w.heap.size + 1) := by show _ = _; simp only [World.size_alloc]
  generalize (w.alloc (.cells pc 30)) = V1 at *
  refine (CC.out V1 HG.out).mono ?_
  rintro e V2 ⟨rfl, hy⟩
  replace K := Lib.hid (K.out.trans (hy.mono K.out.size))
  replace HG := Lib.hid (HG.out.below hy)
  replace P := Lib.hid (P.out.below hy P.out.lt)
  clear hy
  go_wp2
  go_ret
  exact ⟨rfl, K.out⟩
set_option maxRecDepth 100000 in
set_option maxHeartbeats 4000000 in
theorem freeS_no (B st sz : Nat) (c : Nat → Option ByteArray) (a b : Int) (h1 : ¬ inP st sz a b) (w : World) (h : GdS B st sz c w) :
    Calls Try.prog 26 #[.pointer (some ⟨B + 1, 0, none⟩), .agg (plA a b)] w fun e w' => e = .returned (.bool false) ∧ Below w.heap.size w w' := by
  have K := Lib.hid (Below.refl w.heap.size w)
  have HG := Lib.hid h
  have CC := Lib.hid (fun W h => cellS_no B st sz c a b h1 W h)
  clear h h1
  have PI := Lib.hid (plA_i a b)
  generalize plA a b = pc at *
  have hq := eqcS_none
  go_enter Try.func26, Try.ntmps26
  have hal := (Below.refl w.heap.size w).alloc (Nat.le_refl _) (.cells pc 30)
  replace K := Lib.hid (K.out.trans (hal.mono K.out.size))
  replace HG := Lib.hid (HG.out.below hal)
  have P := Lib.hid (Blk.new w 30 pc)
  clear hal
  have L6 : (loadVar 30 ⟨w.heap.size, 0, none⟩).run Try.prog (w.alloc (.cells pc 30)) = .ok (.agg pc) (w.alloc (.cells pc 30)) := run_blk_load (P := Try.prog) 30 (w.heap.size) _ P.out Try.underlying30 rfl PI.out
  replace L6 := Lib.hid L6
  go_wp2_with (((with_reducible refine wpList_load_want (op := ⟨some 7, .load 30 (.tmp 3), _, _, _, _⟩) ?wg6 30 (.tmp 3) ?wo6 ⟨w.heap.size, 0, none⟩ ?wx6 (.agg pc) L6.out ?_); (case wg6 => rfl); (case wo6 => rfl); (case wx6 => rfl)))
  clear L6
  have hzV1 : Hid ((w.alloc (.cells pc 30)).heap.size = w.heap.size + 1) := by show _ = _; simp only [World.size_alloc]
  generalize (w.alloc (.cells pc 30)) = V1 at *
  refine (CC.out V1 HG.out).mono ?_
  rintro e V2 ⟨rfl, hy⟩
  replace K := Lib.hid (K.out.trans (hy.mono K.out.size))
  replace HG := Lib.hid (HG.out.below hy)
  replace P := Lib.hid (P.out.below hy P.out.lt)
  clear hy
  go_wp2
  go_ret
  exact ⟨rfl, K.out⟩
set_option maxRecDepth 100000 in
set_option maxHeartbeats 4000000 in
theorem setS_nil (a b : Int) (v : ByteArray) (w : World) :
    Calls Try.prog 24 #[.pointer none, .agg (plA a b), .string v] w fun e w' => e = .returned (.bool false) ∧ Below w.heap.size w w' := by
  have K := Lib.hid (Below.refl w.heap.size w)
  have CC := Lib.hid (fun W => cellS_nil a b W)
  have PI := Lib.hid (plA_i a b)
  generalize plA a b = pc at *
  have hq := eqcS_none
  go_enter Try.func24, Try.ntmps24
  have hal := (Below.refl w.heap.size w).alloc (Nat.le_refl _) (.cells pc 30)
  replace K := Lib.hid (K.out.trans (hal.mono K.out.size))
  have P := Lib.hid (Blk.new w 30 pc)
  clear hal
  have L7 : (loadVar 30 ⟨w.heap.size, 0, none⟩).run Try.prog (w.alloc (.cells pc 30)) = .ok (.agg pc) (w.alloc (.cells pc 30)) := run_blk_load (P := Try.prog) 30 (w.heap.size) _ P.out Try.underlying30 rfl PI.out
  replace L7 := Lib.hid L7
  go_wp2_with (((with_reducible refine wpList_load_want (op := ⟨some 9, .load 30 (.tmp 4), _, _, _, _⟩) ?wg7 30 (.tmp 4) ?wo7 ⟨w.heap.size, 0, none⟩ ?wx7 (.agg pc) L7.out ?_); (case wg7 => rfl); (case wo7 => rfl); (case wx7 => rfl)))
  clear L7
  have hzV1 : Hid ((w.alloc (.cells pc 30)).heap.size = w.heap.size + 1) := by show _ = _; simp only [World.size_alloc]
  generalize (w.alloc (.cells pc 30)) = V1 at *
  refine (CC.out V1).mono ?_
  rintro e V2 ⟨rfl, hy⟩
  replace K := Lib.hid (K.out.trans (hy.mono K.out.size))
  replace P := Lib.hid (P.out.below hy P.out.lt)
  clear hy
  go_wp2
  go_ret
  exact ⟨rfl, K.out⟩
end Go.Proofs.Ytimnmdeiiahakaa
