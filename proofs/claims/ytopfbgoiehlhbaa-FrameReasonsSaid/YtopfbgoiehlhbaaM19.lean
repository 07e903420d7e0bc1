/- Texts that the walks of this seat lean on, put together: each has its own remark below. -/
import Derived.Test.YtopfbgoiehlhbaaM11
import Derived.Test.YtopfbgoiehlhbaaM15
import Derived.Test.YtopfbgoiehlhbaaM18

/- frame.Good, bazaarref1.Good. -/
namespace Go.Proofs.Ytopfbgoiehlhbaa
open Go.RowKit

theorem vpart (six : Bool) (n s e f p a b : Nat) (S D : Array Value) (hS : S.size = 17) (hD : D.size = 17) : ((vcells six n s e (kcells p S D a b) f).toList.drop 5).take S.toList.length = S.toList ∧ ((vcells six n s e (kcells p S D a b) f).toList.drop 22).take D.toList.length = D.toList := by
  obtain ⟨x0, x1, x2, x3, x4, x5, x6, x7, x8, x9, x10, x11, x12, x13, x14, x15, x16, rfl⟩ := arr17 S hS
  obtain ⟨y0, y1, y2, y3, y4, y5, y6, y7, y8, y9, y10, y11, y12, y13, y14, y15, y16, rfl⟩ := arr17 D hD
  exact ⟨rfl, rfl⟩

set_option maxRecDepth 100000 in
set_option maxHeartbeats 4000000 in
theorem fgood_any (v : Value) (zs : List Nat) (w : World) (hr : Rd w v (nus .u8 zs)) (hb : ∀ c ∈ zs, c < 256) (hz : zs.length ≤ 65535) :
    Calls Try.prog 13 #[v] w fun e w' => e = .returned (.bool (gf zs)) ∧ Below w.heap.size w w' := by
  have CF := Lib.hid (fun W (h : Rd W v (nus .u8 zs)) => fread_any v zs W h hb (.inl hz))
  have YVW : Hid ((vw zs).size = Array.size (#[Value.bool false, .int .i64 0, .int .i64 0, .int .i64 0, .int .u8 0, .bool false, .int .u8 0, .int .u8 0, .int .u8 0, .int .u8 0, .int .u8 0, .int .u8 0, .int .u8 0, .int .u8 0, .int .u8 0, .int .u8 0, .int .u8 0, .int .u8 0, .int .u8 0, .int .u8 0, .int .u8 0, .int .u8 0, .bool false, .int .u8 0, .int .u8 0, .int .u8 0, .int .u8 0, .int .u8 0, .int .u8 0, .int .u8 0, .int .u8 0, .int .u8 0, .int .u8 0, .int .u8 0, .int .u8 0, .int .u8 0, .int .u8 0, .int .u8 0, .int .u8 0, .int .u16 0, .int .u16 0, .int .u8 0] : Array Value)) := vw_size zs
  have QVW := Lib.hid (i72.trans (congrArg some (vw_size zs).symm))
  have AVW := Lib.hid (vw_all zs)
  have K := Lib.hid (Below.refl w.heap.size w)
  have HR := Lib.hid hr
  obtain ⟨a, cap, rfl, hlc, hlm⟩ := rd_shape hr
  by_cases h0 : rr zs = 0
  case neg =>
    have hgf : gf zs = false := by unfold gf; rw [decide_eq_false h0]; rfl
    rw [hgf]
    have g0 : ((rr zs : Int) == 0) = false := by rw [beq_eq_false_iff_ne]; omega
    clear hr hb hgf h0
    generalize rr zs = r at *
    generalize vw zs = VW at *
    generalize zs.length = n at *
    go_enter Try.func13, Try.ntmps13
    go_wp2_with fail
    refine (CF.out _ (HR.out.below K.out)).mono ?_
    rintro e V1 ⟨rfl, hy⟩
    replace K := Lib.hid (K.out.trans (hy.mono K.out.size))
    clear hy
    go_wp2_with (((with_reducible refine wpList_blk_store (op := ⟨none, .store 31 (.tmp 3) (.tmp 8), _, _, _, _⟩) ?sg1 31 (.tmp 3) (.tmp 8) ?so1 (V1.heap.size) VW ?sx1 ?sy1 (Blk.new V1 31 #[Value.bool false, .int .i64 0, .int .i64 0, .int .i64 0, .int .u8 0, .bool false, .int .u8 0, .int .u8 0, .int .u8 0, .int .u8 0, .int .u8 0, .int .u8 0, .int .u8 0, .int .u8 0, .int .u8 0, .int .u8 0, .int .u8 0, .int .u8 0, .int .u8 0, .int .u8 0, .int .u8 0, .int .u8 0, .bool false, .int .u8 0, .int .u8 0, .int .u8 0, .int .u8 0, .int .u8 0, .int .u8 0, .int .u8 0, .int .u8 0, .int .u8 0, .int .u8 0, .int .u8 0, .int .u8 0, .int .u8 0, .int .u8 0, .int .u8 0, .int .u8 0, .int .u16 0, .int .u16 0, .int .u8 0]) YVW.out QVW.out AVW.out ?_); (case sg1 => rfl); (case so1 => rfl); (case sx1 => rfl); (case sy1 => rfl)))
    intro V2 hA hF hB
    have hy := ((Below.refl V1.heap.size V1).alloc (Nat.le_refl _) (.cells #[Value.bool false, .int .i64 0, .int .i64 0, .int .i64 0, .int .u8 0, .bool false, .int .u8 0, .int .u8 0, .int .u8 0, .int .u8 0, .int .u8 0, .int .u8 0, .int .u8 0, .int .u8 0, .int .u8 0, .int .u8 0, .int .u8 0, .int .u8 0, .int .u8 0, .int .u8 0, .int .u8 0, .int .u8 0, .bool false, .int .u8 0, .int .u8 0, .int .u8 0, .int .u8 0, .int .u8 0, .int .u8 0, .int .u8 0, .int .u8 0, .int .u8 0, .int .u8 0, .int .u8 0, .int .u8 0, .int .u8 0, .int .u8 0, .int .u8 0, .int .u8 0, .int .u16 0, .int .u16 0, .int .u8 0] 31)).trans (hB _ (Nat.le_refl _))
    replace K := Lib.hid (K.out.trans (hy.mono K.out.size))
    have HX := Lib.hid hA
    clear hA hF hB hy
    go_wp2_with fail
    refine wp_region_held (S := (fun w' : World => Below (V2.heap.size) V2 w')) (by kernel_rfl) ?_
    change wpAnyH _ _ _ _ _ _ _ _ V2.drew
    have hy : Below V2.heap.size V2 V2.drew := (Below.refl _ _).drew
    have hE0 : Below (V2.heap.size) V2 V2.drew := (Below.refl _ _).drew
    clear hy
    generalize V2.drew = Y2x0 at hE0  ⊢
    have E0 := Lib.hid hE0
    clear hE0
    refine wpAnyH_take (i := 0) (oi := { dst := some 10, op := Op.move (Operand.tmp 4), type := 3, pos := "frame.go:80", after := #[], guard := none }) (v := ?_) rfl (by kernel_rfl) (by kernel_rfl) (by kernel_rfl) (fun _ _ _ h => h) (Or.inl ⟨by rfl, ?_⟩) E0.out ?_
    rotate_left
    · (intro w1 hS; go_simp; try with_reducible rfl)
    simp only [Act.put, List.setIfInBounds_toArray, List.set_cons_zero, List.set_cons_succ]
    refine wpAnyH_take (i := 1) (oi := { dst := some 11, op := Op.binOp BinOp.eql 3 (Operand.tmp 10) (Operand.const (Value.int IntKind.i64 0)) 3, type := 4, pos := "frame.go:80", after := #[{ on := 0, ground := Ground.data }], guard := none }) (v := ?_) rfl (by kernel_rfl) (by kernel_rfl) (by kernel_rfl) (fun _ _ _ h => h) (Or.inl ⟨by rfl, ?_⟩) E0.out ?_
    rotate_left
    · (intro w1 hS; go_simp; try with_reducible rfl)
    simp only [Act.put, List.setIfInBounds_toArray, List.set_cons_zero, List.set_cons_succ]
    refine wpAnyH_take (i := 2) (oi := { dst := some 12, op := Op.move (Operand.tmp 11), type := 4, pos := "frame.go:80", after := #[{ on := 1, ground := Ground.data }], guard := none }) (v := ?_) rfl (by kernel_rfl) (by kernel_rfl) (by kernel_rfl) (fun _ _ _ h => h) (Or.inl ⟨by rfl, ?_⟩) E0.out ?_
    rotate_left
    · (intro w1 hS; go_simp; try with_reducible rfl)
    simp only [Act.put, List.setIfInBounds_toArray, List.set_cons_zero, List.set_cons_succ]
    refine wpAnyH_take (i := 3) (oi := { dst := some 13, op := Op.fieldAddr 31 (Operand.tmp 3) 4, type := 0, pos := "frame.go:80", after := #[{ on := 2, ground := Ground.guard }], guard := some (2, true) }) (v := undef) rfl (by kernel_rfl) (by kernel_rfl) (by kernel_rfl) (fun _ _ _ h => h) (Or.inr ⟨by rfl, rfl⟩) E0.out ?_
    simp only [Act.put, List.setIfInBounds_toArray, List.set_cons_zero, List.set_cons_succ]
    refine wpAnyH_take (i := 4) (oi := { dst := some 14, op := Op.fieldAddr 29 (Operand.tmp 13) 0, type := 0, pos := "frame.go:80", after := #[{ on := 3, ground := Ground.data }, { on := 2, ground := Ground.guard }], guard := some (2, true) }) (v := undef) rfl (by kernel_rfl) (by kernel_rfl) (by kernel_rfl) (fun _ _ _ h => h) (Or.inr ⟨by rfl, rfl⟩) E0.out ?_
    simp only [Act.put, List.setIfInBounds_toArray, List.set_cons_zero, List.set_cons_succ]
    refine wpAnyH_take (i := 5) (oi := { dst := some 15, op := Op.load 5 (Operand.tmp 14), type := 5, pos := "frame.go:80", after := #[{ on := 4, ground := Ground.data }, { on := 2, ground := Ground.guard }], guard := some (2, true) }) (v := undef) rfl (by kernel_rfl) (by kernel_rfl) (by kernel_rfl) (fun _ _ _ h => h) (Or.inr ⟨by rfl, rfl⟩) E0.out ?_
    simp only [Act.put, List.setIfInBounds_toArray, List.set_cons_zero, List.set_cons_succ]
    refine wpAnyH_take (i := 6) (oi := { dst := some 16, op := Op.move (Operand.tmp 0), type := 22, pos := "frame.go:80", after := #[{ on := 2, ground := Ground.guard }], guard := some (2, true) }) (v := undef) rfl (by kernel_rfl) (by kernel_rfl) (by kernel_rfl) (fun _ _ _ h => h) (Or.inr ⟨by rfl, rfl⟩) E0.out ?_
    simp only [Act.put, List.setIfInBounds_toArray, List.set_cons_zero, List.set_cons_succ]
    refine wpAnyH_take (i := 7) (oi := { dst := some 17, op := Op.fieldAddr 31 (Operand.tmp 3) 2, type := 0, pos := "frame.go:80", after := #[{ on := 2, ground := Ground.guard }], guard := some (2, true) }) (v := undef) rfl (by kernel_rfl) (by kernel_rfl) (by kernel_rfl) (fun _ _ _ h => h) (Or.inr ⟨by rfl, rfl⟩) E0.out ?_
    simp only [Act.put, List.setIfInBounds_toArray, List.set_cons_zero, List.set_cons_succ]
    refine wpAnyH_take (i := 8) (oi := { dst := some 18, op := Op.load 3 (Operand.tmp 17), type := 3, pos := "frame.go:80", after := #[{ on := 7, ground := Ground.data }, { on := 2, ground := Ground.guard }], guard := some (2, true) }) (v := undef) rfl (by kernel_rfl) (by kernel_rfl) (by kernel_rfl) (fun _ _ _ h => h) (Or.inr ⟨by rfl, rfl⟩) E0.out ?_
    simp only [Act.put, List.setIfInBounds_toArray, List.set_cons_zero, List.set_cons_succ]
    refine wpAnyH_take (i := 9) (oi := { dst := some 19, op := Op.fieldAddr 31 (Operand.tmp 3) 3, type := 0, pos := "frame.go:80", after := #[{ on := 2, ground := Ground.guard }], guard := some (2, true) }) (v := undef) rfl (by kernel_rfl) (by kernel_rfl) (by kernel_rfl) (fun _ _ _ h => h) (Or.inr ⟨by rfl, rfl⟩) E0.out ?_
    simp only [Act.put, List.setIfInBounds_toArray, List.set_cons_zero, List.set_cons_succ]
    refine wpAnyH_take (i := 10) (oi := { dst := some 20, op := Op.load 3 (Operand.tmp 19), type := 3, pos := "frame.go:80", after := #[{ on := 9, ground := Ground.data }, { on := 2, ground := Ground.guard }], guard := some (2, true) }) (v := undef) rfl (by kernel_rfl) (by kernel_rfl) (by kernel_rfl) (fun _ _ _ h => h) (Or.inr ⟨by rfl, rfl⟩) E0.out ?_
    simp only [Act.put, List.setIfInBounds_toArray, List.set_cons_zero, List.set_cons_succ]
    refine wpAnyH_take (i := 11) (oi := { dst := some 21, op := Op.slice 22 (Operand.tmp 16) (some (Operand.tmp 18)) (some (Operand.tmp 20)) none, type := 22, pos := "frame.go:80", after := #[{ on := 6, ground := Ground.data }, { on := 8, ground := Ground.data }, { on := 10, ground := Ground.data }, { on := 2, ground := Ground.guard }], guard := some (2, true) }) (v := undef) rfl (by kernel_rfl) (by kernel_rfl) (by kernel_rfl) (fun _ _ _ h => h) (Or.inr ⟨by rfl, rfl⟩) E0.out ?_
    simp only [Act.put, List.setIfInBounds_toArray, List.set_cons_zero, List.set_cons_succ]
    refine wpAnyH_take (i := 12) (oi := { dst := some 22, op := Op.fieldAddr 31 (Operand.tmp 3) 4, type := 0, pos := "frame.go:80", after := #[{ on := 2, ground := Ground.guard }], guard := some (2, true) }) (v := undef) rfl (by kernel_rfl) (by kernel_rfl) (by kernel_rfl) (fun _ _ _ h => h) (Or.inr ⟨by rfl, rfl⟩) E0.out ?_
    simp only [Act.put, List.setIfInBounds_toArray, List.set_cons_zero, List.set_cons_succ]
    refine wpAnyH_take (i := 13) (oi := { dst := some 23, op := Op.fieldAddr 29 (Operand.tmp 22) 1, type := 0, pos := "frame.go:80", after := #[{ on := 12, ground := Ground.data }, { on := 2, ground := Ground.guard }], guard := some (2, true) }) (v := undef) rfl (by kernel_rfl) (by kernel_rfl) (by kernel_rfl) (fun _ _ _ h => h) (Or.inr ⟨by rfl, rfl⟩) E0.out ?_
    simp only [Act.put, List.setIfInBounds_toArray, List.set_cons_zero, List.set_cons_succ]
    refine wpAnyH_take (i := 14) (oi := { dst := some 24, op := Op.load 26 (Operand.tmp 23), type := 26, pos := "frame.go:80", after := #[{ on := 13, ground := Ground.data }, { on := 2, ground := Ground.guard }], guard := some (2, true) }) (v := undef) rfl (by kernel_rfl) (by kernel_rfl) (by kernel_rfl) (fun _ _ _ h => h) (Or.inr ⟨by rfl, rfl⟩) E0.out ?_
    simp only [Act.put, List.setIfInBounds_toArray, List.set_cons_zero, List.set_cons_succ]
    refine wpAnyH_take (i := 15) (oi := { dst := some 25, op := Op.fieldAddr 31 (Operand.tmp 3) 4, type := 0, pos := "frame.go:80", after := #[{ on := 2, ground := Ground.guard }], guard := some (2, true) }) (v := undef) rfl (by kernel_rfl) (by kernel_rfl) (by kernel_rfl) (fun _ _ _ h => h) (Or.inr ⟨by rfl, rfl⟩) E0.out ?_
    simp only [Act.put, List.setIfInBounds_toArray, List.set_cons_zero, List.set_cons_succ]
    refine wpAnyH_take (i := 16) (oi := { dst := some 26, op := Op.fieldAddr 29 (Operand.tmp 25) 2, type := 0, pos := "frame.go:80", after := #[{ on := 15, ground := Ground.data }, { on := 2, ground := Ground.guard }], guard := some (2, true) }) (v := undef) rfl (by kernel_rfl) (by kernel_rfl) (by kernel_rfl) (fun _ _ _ h => h) (Or.inr ⟨by rfl, rfl⟩) E0.out ?_
    simp only [Act.put, List.setIfInBounds_toArray, List.set_cons_zero, List.set_cons_succ]
    refine wpAnyH_take (i := 17) (oi := { dst := some 27, op := Op.load 26 (Operand.tmp 26), type := 26, pos := "frame.go:80", after := #[{ on := 16, ground := Ground.data }, { on := 2, ground := Ground.guard }], guard := some (2, true) }) (v := undef) rfl (by kernel_rfl) (by kernel_rfl) (by kernel_rfl) (fun _ _ _ h => h) (Or.inr ⟨by rfl, rfl⟩) E0.out ?_
    simp only [Act.put, List.setIfInBounds_toArray, List.set_cons_zero, List.set_cons_succ]
    refine wpAnyH_take (i := 18) (oi := { dst := some 28, op := Op.call { callee := Callee.value (Operand.func 27), args := #[Operand.tmp 15, Operand.tmp 21, Operand.tmp 24, Operand.tmp 27], argTypes := #[5, 22, 26, 26] }, type := 4, pos := "frame.go:80", after := #[{ on := 5, ground := Ground.data }, { on := 11, ground := Ground.data }, { on := 14, ground := Ground.data }, { on := 17, ground := Ground.data }, { on := 2, ground := Ground.chain }, { on := 2, ground := Ground.guard }], guard := some (2, true) }) (v := undef) rfl (by kernel_rfl) (by kernel_rfl) (by kernel_rfl) (fun _ _ _ h => h) (Or.inr ⟨by rfl, rfl⟩) E0.out ?_
    simp only [Act.put, List.setIfInBounds_toArray, List.set_cons_zero, List.set_cons_succ]
    refine wpAnyH_take (i := 19) (oi := { dst := some 29, op := Op.pick (Operand.tmp 12) (Operand.tmp 28) (Operand.const (Value.bool false)), type := 4, pos := "frame.go:80", after := #[{ on := 2, ground := Ground.data }, { on := 18, ground := Ground.data }], guard := none }) (v := ?_) rfl (by kernel_rfl) (by kernel_rfl) (by kernel_rfl) (fun _ _ _ h => h) (Or.inl ⟨by rfl, ?_⟩) E0.out ?_
    rotate_left
    · (intro w1 hS; go_simp; try with_reducible rfl)
    simp only [Act.put, List.setIfInBounds_toArray, List.set_cons_zero, List.set_cons_succ]
    refine wpAnyH_take (i := 20) (oi := { dst := some 2, op := Op.assign (Operand.tmp 29), type := 4, pos := "frame.go:80", after := #[{ on := 19, ground := Ground.data }, { on := 18, ground := Ground.chain }, { on := 0, ground := Ground.phase }, { on := 1, ground := Ground.phase }, { on := 2, ground := Ground.phase }, { on := 3, ground := Ground.phase }, { on := 4, ground := Ground.phase }, { on := 5, ground := Ground.phase }, { on := 6, ground := Ground.phase }, { on := 7, ground := Ground.phase }, { on := 8, ground := Ground.phase }, { on := 9, ground := Ground.phase }, { on := 10, ground := Ground.phase }, { on := 11, ground := Ground.phase }, { on := 12, ground := Ground.phase }, { on := 13, ground := Ground.phase }, { on := 14, ground := Ground.phase }, { on := 15, ground := Ground.phase }, { on := 16, ground := Ground.phase }, { on := 17, ground := Ground.phase }, { on := 18, ground := Ground.phase }, { on := 19, ground := Ground.phase }], guard := none }) (v := ?_) rfl (by kernel_rfl) (by kernel_rfl) (by kernel_rfl) (fun _ _ _ h => h) (Or.inl ⟨by rfl, ?_⟩) E0.out ?_
    rotate_left
    · (intro w1 hS; go_simp; try with_reducible rfl)
    simp only [Act.put, List.setIfInBounds_toArray, List.set_cons_zero, List.set_cons_succ]
    refine wpAnyH_done (by kernel_rfl) ?_ _
    have hy := E0.out
    replace K := Lib.hid (K.out.trans (hy.mono K.out.size))
    replace HX := Lib.hid (HX.out.below hy HX.out.lt)
    clear hy E0
    go_wp2
    go_ret
    exact ⟨rfl, K.out⟩
  obtain ⟨hn, hf, hs⟩ := rr_yes zs h0
  obtain ⟨hat, hatl, -⟩ := net_ok zs hn
  have HDD := fhd_yes _ _ hf
  have hlow := HDD.low
  have hmid := HDD.mid
  have hhigh := HDD.high
  have hpr := HDD.pr
  have hsS := HDD.sA
  have hsD := HDD.sB
  have hbT : ∀ c ∈ pkt zs, c < 256 := fun c hc => hb c (List.mem_of_mem_drop hc)
  have hbP : ∀ c ∈ sgm zs, c < 256 := fun c hc => hb c (List.mem_of_mem_drop (List.mem_of_mem_take hc))
  have lT : (pkt zs).length = zs.length - (net zs).1 := by unfold pkt; rw [List.length_drop]
  rw [lT] at hhigh
  have hvw : vw zs = vcells (sixF zs) (net zs).1 ((net zs).1 + fS (sixF zs) (pkt zs)) ((net zs).1 + fL (sixF zs) (pkt zs)) (keyF zs) (fl (fP (sixF zs) (pkt zs)) (sgm zs)) := by unfold vw; rw [if_pos h0]
  unfold keyF at hvw
  obtain ⟨sg, hsg⟩ : ∃ x, x = (net zs).1 + fS (sixF zs) (pkt zs) := ⟨_, rfl⟩
  obtain ⟨en, hen⟩ : ∃ x, x = (net zs).1 + fL (sixF zs) (pkt zs) := ⟨_, rfl⟩
  rw [← hsg, ← hen] at hvw
  have hpt : sgm zs = (zs.drop sg).take (en - sg) := by
    unfold sgm; rw [← hsg, show fL (sixF zs) (pkt zs) - fS (sixF zs) (pkt zs) = en - sg by omega]
  have hlP : (sgm zs).length ≤ zs.length := by rw [hpt, List.length_take, List.length_drop]; omega
  obtain ⟨b, off, rfl, -⟩ := hr.cells (by omega)
  have hRP := subP hr sg (en - sg) (by omega)
  rw [← hpt] at hRP
  have hgf : gf zs = gd (fP (sixF zs) (pkt zs)) (sgm zs) (sixF zs) (lA (sixF zs) (pkt zs)) (sixF zs) (lB (sixF zs) (pkt zs)) := by unfold gf; rw [decide_eq_true h0, Bool.true_and]
  have hbk := (fun W z (h : Rd W z (nus .u8 (sgm zs))) => good_any (fP (sixF zs) (pkt zs)) z (sgm zs) (sixF zs) (lA (sixF zs) (pkt zs)) (sixF zs) (lB (sixF zs) (pkt zs)) W h hbP (by omega) (by omega) (lA_len _ _ hf) (lB_len _ _ hf) (lA_lt _ _ hbT) (lB_lt _ _ hbT))
  rw [← hgf, ← lA_eq, ← lB_eq] at hbk
  have CG := Lib.hid hbk
  obtain ⟨q5, q22⟩ := vpart (sixF zs) (net zs).1 sg en (fl (fP (sixF zs) (pkt zs)) (sgm zs)) (fP (sixF zs) (pkt zs)) (u2 (sgm zs) 0) (u2 (sgm zs) 2) _ _ hsS hsD
  obtain ⟨-, -, q2, q3, q4⟩ := vget (sixF zs) (net zs).1 sg en (fl (fP (sixF zs) (pkt zs)) (sgm zs)) (fP (sixF zs) (pkt zs)) (u2 (sgm zs) 0) (u2 (sgm zs) 2) (fA (sixF zs) (pkt zs)) (fB (sixF zs) (pkt zs))
  rw [← hvw] at q5 q22 q2 q3 q4
  obtain ⟨P2, hP3⟩ : ∃ P, P = (if cap = sg then some (⟨b, off, none⟩ : Addr) else some ⟨b, off + sg, none⟩) := ⟨_, rfl⟩
  rw [← hP3] at hRP
  have RP := Lib.hid hRP
  have HP2 := Lib.hid hP3
  have H2 := Lib.hid q2
  have H3 := Lib.hid q3
  have H4 := Lib.hid q4
  have PS := Lib.hid q5
  have PD := Lib.hid q22
  have IS := Lib.hid (i24.trans (congrArg some (show (17 : Nat) = (fA (sixF zs) (pkt zs)).toList.length by simp [hsS])))
  have ID := Lib.hid (i24.trans (congrArg some (show (17 : Nat) = (fB (sixF zs) (pkt zs)).toList.length by simp [hsD])))
  rw [h0] at CF
  have hse : sg ≤ en := by omega
  have hen2 : en ≤ zs.length := by omega
  unfold maxLen at hlm
  clear hr hb h0 hn hf hs hat hatl HDD hlow hmid hhigh hpr hsS hsD hbT hbP lT hvw hsg hen hpt hlP hRP hgf hbk q2 q3 q4 q5 q22 hP3 hz
  generalize gf zs = GF at *
  generalize fA (sixF zs) (pkt zs) = S at *
  generalize fB (sixF zs) (pkt zs) = D at *
  generalize fP (sixF zs) (pkt zs) = p at *
  generalize sgm zs = PT at *
  generalize vw zs = VW at *
  generalize zs.length = n at *
  go_enter Try.func13, Try.ntmps13
  go_wp2_with fail
  refine (CF.out _ (HR.out.below K.out)).mono ?_
  rintro e V1 ⟨rfl, hy⟩
  replace K := Lib.hid (K.out.trans (hy.mono K.out.size))
  clear hy
  go_wp2_with (((with_reducible refine wpList_blk_store (op := ⟨none, .store 31 (.tmp 3) (.tmp 8), _, _, _, _⟩) ?sg2 31 (.tmp 3) (.tmp 8) ?so2 (V1.heap.size) VW ?sx2 ?sy2 (Blk.new V1 31 #[Value.bool false, .int .i64 0, .int .i64 0, .int .i64 0, .int .u8 0, .bool false, .int .u8 0, .int .u8 0, .int .u8 0, .int .u8 0, .int .u8 0, .int .u8 0, .int .u8 0, .int .u8 0, .int .u8 0, .int .u8 0, .int .u8 0, .int .u8 0, .int .u8 0, .int .u8 0, .int .u8 0, .int .u8 0, .bool false, .int .u8 0, .int .u8 0, .int .u8 0, .int .u8 0, .int .u8 0, .int .u8 0, .int .u8 0, .int .u8 0, .int .u8 0, .int .u8 0, .int .u8 0, .int .u8 0, .int .u8 0, .int .u8 0, .int .u8 0, .int .u8 0, .int .u16 0, .int .u16 0, .int .u8 0]) YVW.out QVW.out AVW.out ?_); (case sg2 => rfl); (case so2 => rfl); (case sx2 => rfl); (case sy2 => rfl)))
  intro V2 hA hF hB
  have hy := ((Below.refl V1.heap.size V1).alloc (Nat.le_refl _) (.cells #[Value.bool false, .int .i64 0, .int .i64 0, .int .i64 0, .int .u8 0, .bool false, .int .u8 0, .int .u8 0, .int .u8 0, .int .u8 0, .int .u8 0, .int .u8 0, .int .u8 0, .int .u8 0, .int .u8 0, .int .u8 0, .int .u8 0, .int .u8 0, .int .u8 0, .int .u8 0, .int .u8 0, .int .u8 0, .bool false, .int .u8 0, .int .u8 0, .int .u8 0, .int .u8 0, .int .u8 0, .int .u8 0, .int .u8 0, .int .u8 0, .int .u8 0, .int .u8 0, .int .u8 0, .int .u8 0, .int .u8 0, .int .u8 0, .int .u8 0, .int .u8 0, .int .u16 0, .int .u16 0, .int .u8 0] 31)).trans (hB _ (Nat.le_refl _))
  replace K := Lib.hid (K.out.trans (hy.mono K.out.size))
  have HX := Lib.hid hA
  clear hA hF hB hy
  go_wp2_with fail
  refine wp_region_held (S := (fun w' : World => Below (V2.heap.size) V2 w')) (by kernel_rfl) ?_
  change wpAnyH _ _ _ _ _ _ _ _ V2.drew
  have hy : Below V2.heap.size V2 V2.drew := (Below.refl _ _).drew
  have hE0 : Below (V2.heap.size) V2 V2.drew := (Below.refl _ _).drew
  clear hy
  generalize V2.drew = Y2x0 at hE0  ⊢
  have E0 := Lib.hid hE0
  clear hE0
  refine wpAnyH_take (i := 0) (oi := { dst := some 10, op := Op.move (Operand.tmp 4), type := 3, pos := "frame.go:80", after := #[], guard := none }) (v := ?_) rfl (by kernel_rfl) (by kernel_rfl) (by kernel_rfl) (fun _ _ _ h => h) (Or.inl ⟨by rfl, ?_⟩) E0.out ?_
  rotate_left
  · (intro w1 hS; go_simp; try with_reducible rfl)
  simp only [Act.put, List.setIfInBounds_toArray, List.set_cons_zero, List.set_cons_succ]
  refine wpAnyH_take (i := 1) (oi := { dst := some 11, op := Op.binOp BinOp.eql 3 (Operand.tmp 10) (Operand.const (Value.int IntKind.i64 0)) 3, type := 4, pos := "frame.go:80", after := #[{ on := 0, ground := Ground.data }], guard := none }) (v := ?_) rfl (by kernel_rfl) (by kernel_rfl) (by kernel_rfl) (fun _ _ _ h => h) (Or.inl ⟨by rfl, ?_⟩) E0.out ?_
  rotate_left
  · (intro w1 hS; go_simp; try with_reducible rfl)
  simp only [Act.put, List.setIfInBounds_toArray, List.set_cons_zero, List.set_cons_succ]
  refine wpAnyH_take (i := 2) (oi := { dst := some 12, op := Op.move (Operand.tmp 11), type := 4, pos := "frame.go:80", after := #[{ on := 1, ground := Ground.data }], guard := none }) (v := ?_) rfl (by kernel_rfl) (by kernel_rfl) (by kernel_rfl) (fun _ _ _ h => h) (Or.inl ⟨by rfl, ?_⟩) E0.out ?_
  rotate_left
  · (intro w1 hS; go_simp; try with_reducible rfl)
  simp only [Act.put, List.setIfInBounds_toArray, List.set_cons_zero, List.set_cons_succ]
  refine wpAnyH_take (i := 3) (oi := { dst := some 13, op := Op.fieldAddr 31 (Operand.tmp 3) 4, type := 0, pos := "frame.go:80", after := #[{ on := 2, ground := Ground.guard }], guard := some (2, true) }) (v := ?_) rfl (by kernel_rfl) (by kernel_rfl) (by kernel_rfl) (fun _ _ _ h => h) (Or.inl ⟨by rfl, ?_⟩) E0.out ?_
  rotate_left
  · (intro w1 hS; go_simp; try with_reducible rfl)
  simp only [Act.put, List.setIfInBounds_toArray, List.set_cons_zero, List.set_cons_succ]
  refine wpAnyH_take (i := 4) (oi := { dst := some 14, op := Op.fieldAddr 29 (Operand.tmp 13) 0, type := 0, pos := "frame.go:80", after := #[{ on := 3, ground := Ground.data }, { on := 2, ground := Ground.guard }], guard := some (2, true) }) (v := ?_) rfl (by kernel_rfl) (by kernel_rfl) (by kernel_rfl) (fun _ _ _ h => h) (Or.inl ⟨by rfl, ?_⟩) E0.out ?_
  rotate_left
  · (intro w1 hS; go_simp; try with_reducible rfl)
  simp only [Act.put, List.setIfInBounds_toArray, List.set_cons_zero, List.set_cons_succ]
  refine wpAnyH_take (i := 5) (oi := { dst := some 15, op := Op.load 5 (Operand.tmp 14), type := 5, pos := "frame.go:80", after := #[{ on := 4, ground := Ground.data }, { on := 2, ground := Ground.guard }], guard := some (2, true) }) (v := ?_) rfl (by kernel_rfl) (by kernel_rfl) (by kernel_rfl) (fun _ _ _ h => h) (Or.inl ⟨by rfl, ?_⟩) E0.out ?_
  rotate_left
  · (intro w1 hS; have hW := hS; have q := ((HX.out.below hW HX.out.lt).cell 4).trans H4.out; clear hW hS; go_simp; try with_reducible rfl)
  simp only [Act.put, List.setIfInBounds_toArray, List.set_cons_zero, List.set_cons_succ]
  refine wpAnyH_take (i := 6) (oi := { dst := some 16, op := Op.move (Operand.tmp 0), type := 22, pos := "frame.go:80", after := #[{ on := 2, ground := Ground.guard }], guard := some (2, true) }) (v := ?_) rfl (by kernel_rfl) (by kernel_rfl) (by kernel_rfl) (fun _ _ _ h => h) (Or.inl ⟨by rfl, ?_⟩) E0.out ?_
  rotate_left
  · (intro w1 hS; go_simp; try with_reducible rfl)
  simp only [Act.put, List.setIfInBounds_toArray, List.set_cons_zero, List.set_cons_succ]
  refine wpAnyH_take (i := 7) (oi := { dst := some 17, op := Op.fieldAddr 31 (Operand.tmp 3) 2, type := 0, pos := "frame.go:80", after := #[{ on := 2, ground := Ground.guard }], guard := some (2, true) }) (v := ?_) rfl (by kernel_rfl) (by kernel_rfl) (by kernel_rfl) (fun _ _ _ h => h) (Or.inl ⟨by rfl, ?_⟩) E0.out ?_
  rotate_left
  · (intro w1 hS; go_simp; try with_reducible rfl)
  simp only [Act.put, List.setIfInBounds_toArray, List.set_cons_zero, List.set_cons_succ]
  refine wpAnyH_take (i := 8) (oi := { dst := some 18, op := Op.load 3 (Operand.tmp 17), type := 3, pos := "frame.go:80", after := #[{ on := 7, ground := Ground.data }, { on := 2, ground := Ground.guard }], guard := some (2, true) }) (v := ?_) rfl (by kernel_rfl) (by kernel_rfl) (by kernel_rfl) (fun _ _ _ h => h) (Or.inl ⟨by rfl, ?_⟩) E0.out ?_
  rotate_left
  · (intro w1 hS; have hW := hS; have q := ((HX.out.below hW HX.out.lt).cell 2).trans H2.out; clear hW hS; go_simp; try with_reducible rfl)
  simp only [Act.put, List.setIfInBounds_toArray, List.set_cons_zero, List.set_cons_succ]
  refine wpAnyH_take (i := 9) (oi := { dst := some 19, op := Op.fieldAddr 31 (Operand.tmp 3) 3, type := 0, pos := "frame.go:80", after := #[{ on := 2, ground := Ground.guard }], guard := some (2, true) }) (v := ?_) rfl (by kernel_rfl) (by kernel_rfl) (by kernel_rfl) (fun _ _ _ h => h) (Or.inl ⟨by rfl, ?_⟩) E0.out ?_
  rotate_left
  · (intro w1 hS; go_simp; try with_reducible rfl)
  simp only [Act.put, List.setIfInBounds_toArray, List.set_cons_zero, List.set_cons_succ]
  refine wpAnyH_take (i := 10) (oi := { dst := some 20, op := Op.load 3 (Operand.tmp 19), type := 3, pos := "frame.go:80", after := #[{ on := 9, ground := Ground.data }, { on := 2, ground := Ground.guard }], guard := some (2, true) }) (v := ?_) rfl (by kernel_rfl) (by kernel_rfl) (by kernel_rfl) (fun _ _ _ h => h) (Or.inl ⟨by rfl, ?_⟩) E0.out ?_
  rotate_left
  · (intro w1 hS; have hW := hS; have q := ((HX.out.below hW HX.out.lt).cell 3).trans H3.out; clear hW hS; go_simp; try with_reducible rfl)
  simp only [Act.put, List.setIfInBounds_toArray, List.set_cons_zero, List.set_cons_succ]
  refine wpAnyH_take (i := 11) (oi := { dst := some 21, op := Op.slice 22 (Operand.tmp 16) (some (Operand.tmp 18)) (some (Operand.tmp 20)) none, type := 22, pos := "frame.go:80", after := #[{ on := 6, ground := Ground.data }, { on := 8, ground := Ground.data }, { on := 10, ground := Ground.data }, { on := 2, ground := Ground.guard }], guard := some (2, true) }) (v := ?_) rfl (by kernel_rfl) (by kernel_rfl) (by kernel_rfl) (fun _ _ _ h => h) (Or.inl ⟨by rfl, ?_⟩) E0.out ?_
  rotate_left
  · (intro w1 hS; have hW := hS; have q : (sg : Int) ≤ (en : Int) := (by omega); have q3 : (en : Int) ≤ (cap : Int) := (by omega); have q2 := HP2.out.symm; clear hW hS; go_simp; try with_reducible rfl)
  simp only [Act.put, List.setIfInBounds_toArray, List.set_cons_zero, List.set_cons_succ]
  refine wpAnyH_take (i := 12) (oi := { dst := some 22, op := Op.fieldAddr 31 (Operand.tmp 3) 4, type := 0, pos := "frame.go:80", after := #[{ on := 2, ground := Ground.guard }], guard := some (2, true) }) (v := ?_) rfl (by kernel_rfl) (by kernel_rfl) (by kernel_rfl) (fun _ _ _ h => h) (Or.inl ⟨by rfl, ?_⟩) E0.out ?_
  rotate_left
  · (intro w1 hS; go_simp; try with_reducible rfl)
  simp only [Act.put, List.setIfInBounds_toArray, List.set_cons_zero, List.set_cons_succ]
  refine wpAnyH_take (i := 13) (oi := { dst := some 23, op := Op.fieldAddr 29 (Operand.tmp 22) 1, type := 0, pos := "frame.go:80", after := #[{ on := 12, ground := Ground.data }, { on := 2, ground := Ground.guard }], guard := some (2, true) }) (v := ?_) rfl (by kernel_rfl) (by kernel_rfl) (by kernel_rfl) (fun _ _ _ h => h) (Or.inl ⟨by rfl, ?_⟩) E0.out ?_
  rotate_left
  · (intro w1 hS; go_simp; try with_reducible rfl)
  simp only [Act.put, List.setIfInBounds_toArray, List.set_cons_zero, List.set_cons_succ]
  refine wpAnyH_take (i := 14) (oi := { dst := some 24, op := Op.load 26 (Operand.tmp 23), type := 26, pos := "frame.go:80", after := #[{ on := 13, ground := Ground.data }, { on := 2, ground := Ground.guard }], guard := some (2, true) }) (v := .agg S) rfl (by kernel_rfl) (by kernel_rfl) (by kernel_rfl) (fun _ _ _ h => h) (Or.inl ⟨by rfl, ?_⟩) E0.out ?_
  · (intro w1 hS; have hW := hS; exact exec_load 26 (.tmp 23) rfl _ rfl _ (by have h := run_part_load (P := Try.prog) 26 5 S.toList _ (HX.out.below hW HX.out.lt) PS.out Try.underlying26 rfl IS.out; rwa [Array.toArray_toList] at h))
  simp only [Act.put, List.setIfInBounds_toArray, List.set_cons_zero, List.set_cons_succ]
  refine wpAnyH_take (i := 15) (oi := { dst := some 25, op := Op.fieldAddr 31 (Operand.tmp 3) 4, type := 0, pos := "frame.go:80", after := #[{ on := 2, ground := Ground.guard }], guard := some (2, true) }) (v := ?_) rfl (by kernel_rfl) (by kernel_rfl) (by kernel_rfl) (fun _ _ _ h => h) (Or.inl ⟨by rfl, ?_⟩) E0.out ?_
  rotate_left
  · (intro w1 hS; go_simp; try with_reducible rfl)
  simp only [Act.put, List.setIfInBounds_toArray, List.set_cons_zero, List.set_cons_succ]
  refine wpAnyH_take (i := 16) (oi := { dst := some 26, op := Op.fieldAddr 29 (Operand.tmp 25) 2, type := 0, pos := "frame.go:80", after := #[{ on := 15, ground := Ground.data }, { on := 2, ground := Ground.guard }], guard := some (2, true) }) (v := ?_) rfl (by kernel_rfl) (by kernel_rfl) (by kernel_rfl) (fun _ _ _ h => h) (Or.inl ⟨by rfl, ?_⟩) E0.out ?_
  rotate_left
  · (intro w1 hS; go_simp; try with_reducible rfl)
  simp only [Act.put, List.setIfInBounds_toArray, List.set_cons_zero, List.set_cons_succ]
  refine wpAnyH_take (i := 17) (oi := { dst := some 27, op := Op.load 26 (Operand.tmp 26), type := 26, pos := "frame.go:80", after := #[{ on := 16, ground := Ground.data }, { on := 2, ground := Ground.guard }], guard := some (2, true) }) (v := .agg D) rfl (by kernel_rfl) (by kernel_rfl) (by kernel_rfl) (fun _ _ _ h => h) (Or.inl ⟨by rfl, ?_⟩) E0.out ?_
  · (intro w1 hS; have hW := hS; exact exec_load 26 (.tmp 26) rfl _ rfl _ (by have h := run_part_load (P := Try.prog) 26 22 D.toList _ (HX.out.below hW HX.out.lt) PD.out Try.underlying26 rfl ID.out; rwa [Array.toArray_toList] at h))
  simp only [Act.put, List.setIfInBounds_toArray, List.set_cons_zero, List.set_cons_succ]
  refine wpAnyH_ready (rs := [18]) (by kernel_rfl) (by simp) ?_
  refine AllReadyH.cons (o := { dst := some 28, op := Op.call { callee := Callee.value (Operand.func 27), args := #[Operand.tmp 15, Operand.tmp 21, Operand.tmp 24, Operand.tmp 27], argTypes := #[5, 22, 26, 26] }, type := 4, pos := "frame.go:80", after := #[{ on := 5, ground := Ground.data }, { on := 11, ground := Ground.data }, { on := 14, ground := Ground.data }, { on := 17, ground := Ground.data }, { on := 2, ground := Ground.chain }, { on := 2, ground := Ground.guard }], guard := some (2, true) }) rfl (fun KK hK => ?_) AllReadyH.nil
  go_simp
  refine (CG.out _ _ (RP.out.below (K.out.trans (E0.out.mono K.out.size)))).mono ?_
  rintro e Y2x1 ⟨rfl, hy⟩
  have E1 := Lib.hid (E0.out.trans (hy.mono E0.out.size))
  have C1 := Lib.hid E1.out
  clear hy E0
  refine hK.out _ _ C1.out (fun _ => ?_)
  clear hK KK
  refine wpAnyH_mono (S' := (fun w' : World => Below Y2x1.heap.size Y2x1 w')) (fun w1 h => C1.out.trans (h.mono C1.out.size)) _ _ _ _ ?_
  clear C1
  try simp only [Act.put, List.setIfInBounds_toArray, List.set_cons_zero, List.set_cons_succ]
  refine wpAnyH_take (i := 19) (oi := { dst := some 29, op := Op.pick (Operand.tmp 12) (Operand.tmp 28) (Operand.const (Value.bool false)), type := 4, pos := "frame.go:80", after := #[{ on := 2, ground := Ground.data }, { on := 18, ground := Ground.data }], guard := none }) (v := ?_) rfl (by kernel_rfl) (by kernel_rfl) (by kernel_rfl) (fun _ _ _ h => h) (Or.inl ⟨by rfl, ?_⟩) (Below.refl _ _) ?_
  rotate_left
  · (intro w1 hS; go_simp; try with_reducible rfl)
  simp only [Act.put, List.setIfInBounds_toArray, List.set_cons_zero, List.set_cons_succ]
  refine wpAnyH_take (i := 20) (oi := { dst := some 2, op := Op.assign (Operand.tmp 29), type := 4, pos := "frame.go:80", after := #[{ on := 19, ground := Ground.data }, { on := 18, ground := Ground.chain }, { on := 0, ground := Ground.phase }, { on := 1, ground := Ground.phase }, { on := 2, ground := Ground.phase }, { on := 3, ground := Ground.phase }, { on := 4, ground := Ground.phase }, { on := 5, ground := Ground.phase }, { on := 6, ground := Ground.phase }, { on := 7, ground := Ground.phase }, { on := 8, ground := Ground.phase }, { on := 9, ground := Ground.phase }, { on := 10, ground := Ground.phase }, { on := 11, ground := Ground.phase }, { on := 12, ground := Ground.phase }, { on := 13, ground := Ground.phase }, { on := 14, ground := Ground.phase }, { on := 15, ground := Ground.phase }, { on := 16, ground := Ground.phase }, { on := 17, ground := Ground.phase }, { on := 18, ground := Ground.phase }, { on := 19, ground := Ground.phase }], guard := none }) (v := ?_) rfl (by kernel_rfl) (by kernel_rfl) (by kernel_rfl) (fun _ _ _ h => h) (Or.inl ⟨by rfl, ?_⟩) (Below.refl _ _) ?_
  rotate_left
  · (intro w1 hS; go_simp; try with_reducible rfl)
  simp only [Act.put, List.setIfInBounds_toArray, List.set_cons_zero, List.set_cons_succ]
  refine wpAnyH_done (by kernel_rfl) ?_ _
  have hy := E1.out
  replace K := Lib.hid (K.out.trans (hy.mono K.out.size))
  replace HX := Lib.hid (HX.out.below hy HX.out.lt)
  clear hy E1
  go_wp2
  go_ret
  exact ⟨rfl, K.out⟩

set_option maxRecDepth 100000 in
set_option maxHeartbeats 4000000 in
theorem rfgood_any (v : Value) (zs : List Nat) (w : World) (hr : Rd w v (nus .u8 zs)) (hb : ∀ c ∈ zs, c < 256) (hz : zs.length ≤ 3000) :
    Calls Try.prog 14 #[v] w fun e w' => e = .returned (.bool (gf zs)) ∧ Below w.heap.size w w' := by
  have CF := Lib.hid (fun W (h : Rd W v (nus .u8 zs)) => rframe_any v zs W h hb hz)
  have YVW : Hid ((vw zs).size = Array.size (#[Value.bool false, .int .i64 0, .int .i64 0, .int .i64 0, .int .u8 0, .bool false, .int .u8 0, .int .u8 0, .int .u8 0, .int .u8 0, .int .u8 0, .int .u8 0, .int .u8 0, .int .u8 0, .int .u8 0, .int .u8 0, .int .u8 0, .int .u8 0, .int .u8 0, .int .u8 0, .int .u8 0, .int .u8 0, .bool false, .int .u8 0, .int .u8 0, .int .u8 0, .int .u8 0, .int .u8 0, .int .u8 0, .int .u8 0, .int .u8 0, .int .u8 0, .int .u8 0, .int .u8 0, .int .u8 0, .int .u8 0, .int .u8 0, .int .u8 0, .int .u8 0, .int .u16 0, .int .u16 0, .int .u8 0] : Array Value)) := vw_size zs
  have QVW := Lib.hid (i72.trans (congrArg some (vw_size zs).symm))
  have AVW := Lib.hid (vw_all zs)
  have K := Lib.hid (Below.refl w.heap.size w)
  have HR := Lib.hid hr
  obtain ⟨a, cap, rfl, hlc, hlm⟩ := rd_shape hr
  by_cases h0 : rr zs = 0
  case neg =>
    have hgf : gf zs = false := by unfold gf; rw [decide_eq_false h0]; rfl
    rw [hgf]
    have g0 : ((rr zs : Int) == 0) = false := by rw [beq_eq_false_iff_ne]; omega
    clear hr hb hgf h0
    generalize rr zs = r at *
    generalize vw zs = VW at *
    generalize zs.length = n at *
    go_enter Try.func14, Try.ntmps14
    go_wp2_with fail
    refine (CF.out _ (HR.out.below K.out)).mono ?_
    rintro e V1 ⟨rfl, hy⟩
    replace K := Lib.hid (K.out.trans (hy.mono K.out.size))
    clear hy
    go_wp2_with (((with_reducible refine wpList_blk_store (op := ⟨none, .store 31 (.tmp 3) (.tmp 8), _, _, _, _⟩) ?sg3 31 (.tmp 3) (.tmp 8) ?so3 (V1.heap.size) VW ?sx3 ?sy3 (Blk.new V1 31 #[Value.bool false, .int .i64 0, .int .i64 0, .int .i64 0, .int .u8 0, .bool false, .int .u8 0, .int .u8 0, .int .u8 0, .int .u8 0, .int .u8 0, .int .u8 0, .int .u8 0, .int .u8 0, .int .u8 0, .int .u8 0, .int .u8 0, .int .u8 0, .int .u8 0, .int .u8 0, .int .u8 0, .int .u8 0, .bool false, .int .u8 0, .int .u8 0, .int .u8 0, .int .u8 0, .int .u8 0, .int .u8 0, .int .u8 0, .int .u8 0, .int .u8 0, .int .u8 0, .int .u8 0, .int .u8 0, .int .u8 0, .int .u8 0, .int .u8 0, .int .u8 0, .int .u16 0, .int .u16 0, .int .u8 0]) YVW.out QVW.out AVW.out ?_); (case sg3 => rfl); (case so3 => rfl); (case sx3 => rfl); (case sy3 => rfl)))
    intro V2 hA hF hB
    have hy := ((Below.refl V1.heap.size V1).alloc (Nat.le_refl _) (.cells #[Value.bool false, .int .i64 0, .int .i64 0, .int .i64 0, .int .u8 0, .bool false, .int .u8 0, .int .u8 0, .int .u8 0, .int .u8 0, .int .u8 0, .int .u8 0, .int .u8 0, .int .u8 0, .int .u8 0, .int .u8 0, .int .u8 0, .int .u8 0, .int .u8 0, .int .u8 0, .int .u8 0, .int .u8 0, .bool false, .int .u8 0, .int .u8 0, .int .u8 0, .int .u8 0, .int .u8 0, .int .u8 0, .int .u8 0, .int .u8 0, .int .u8 0, .int .u8 0, .int .u8 0, .int .u8 0, .int .u8 0, .int .u8 0, .int .u8 0, .int .u8 0, .int .u16 0, .int .u16 0, .int .u8 0] 31)).trans (hB _ (Nat.le_refl _))
    replace K := Lib.hid (K.out.trans (hy.mono K.out.size))
    have HX := Lib.hid hA
    clear hA hF hB hy
    go_wp2_with fail
    refine wp_region_held (S := (fun w' : World => Below (V2.heap.size) V2 w')) (by kernel_rfl) ?_
    change wpAnyH _ _ _ _ _ _ _ _ V2.drew
    have hy : Below V2.heap.size V2 V2.drew := (Below.refl _ _).drew
    have hE0 : Below (V2.heap.size) V2 V2.drew := (Below.refl _ _).drew
    clear hy
    generalize V2.drew = Y2x0 at hE0  ⊢
    have E0 := Lib.hid hE0
    clear hE0
    refine wpAnyH_take (i := 0) (oi := { dst := some 10, op := Op.move (Operand.tmp 4), type := 3, pos := "frame.go:390", after := #[], guard := none }) (v := ?_) rfl (by kernel_rfl) (by kernel_rfl) (by kernel_rfl) (fun _ _ _ h => h) (Or.inl ⟨by rfl, ?_⟩) E0.out ?_
    rotate_left
    · (intro w1 hS; go_simp; try with_reducible rfl)
    simp only [Act.put, List.setIfInBounds_toArray, List.set_cons_zero, List.set_cons_succ]
    refine wpAnyH_take (i := 1) (oi := { dst := some 11, op := Op.binOp BinOp.eql 3 (Operand.tmp 10) (Operand.const (Value.int IntKind.i64 0)) 3, type := 4, pos := "frame.go:390", after := #[{ on := 0, ground := Ground.data }], guard := none }) (v := ?_) rfl (by kernel_rfl) (by kernel_rfl) (by kernel_rfl) (fun _ _ _ h => h) (Or.inl ⟨by rfl, ?_⟩) E0.out ?_
    rotate_left
    · (intro w1 hS; go_simp; try with_reducible rfl)
    simp only [Act.put, List.setIfInBounds_toArray, List.set_cons_zero, List.set_cons_succ]
    refine wpAnyH_take (i := 2) (oi := { dst := some 12, op := Op.move (Operand.tmp 11), type := 4, pos := "frame.go:390", after := #[{ on := 1, ground := Ground.data }], guard := none }) (v := ?_) rfl (by kernel_rfl) (by kernel_rfl) (by kernel_rfl) (fun _ _ _ h => h) (Or.inl ⟨by rfl, ?_⟩) E0.out ?_
    rotate_left
    · (intro w1 hS; go_simp; try with_reducible rfl)
    simp only [Act.put, List.setIfInBounds_toArray, List.set_cons_zero, List.set_cons_succ]
    refine wpAnyH_take (i := 3) (oi := { dst := some 13, op := Op.fieldAddr 31 (Operand.tmp 3) 4, type := 0, pos := "frame.go:390", after := #[{ on := 2, ground := Ground.guard }], guard := some (2, true) }) (v := undef) rfl (by kernel_rfl) (by kernel_rfl) (by kernel_rfl) (fun _ _ _ h => h) (Or.inr ⟨by rfl, rfl⟩) E0.out ?_
    simp only [Act.put, List.setIfInBounds_toArray, List.set_cons_zero, List.set_cons_succ]
    refine wpAnyH_take (i := 4) (oi := { dst := some 14, op := Op.fieldAddr 29 (Operand.tmp 13) 0, type := 0, pos := "frame.go:390", after := #[{ on := 3, ground := Ground.data }, { on := 2, ground := Ground.guard }], guard := some (2, true) }) (v := undef) rfl (by kernel_rfl) (by kernel_rfl) (by kernel_rfl) (fun _ _ _ h => h) (Or.inr ⟨by rfl, rfl⟩) E0.out ?_
    simp only [Act.put, List.setIfInBounds_toArray, List.set_cons_zero, List.set_cons_succ]
    refine wpAnyH_take (i := 5) (oi := { dst := some 15, op := Op.load 5 (Operand.tmp 14), type := 5, pos := "frame.go:390", after := #[{ on := 4, ground := Ground.data }, { on := 2, ground := Ground.guard }], guard := some (2, true) }) (v := undef) rfl (by kernel_rfl) (by kernel_rfl) (by kernel_rfl) (fun _ _ _ h => h) (Or.inr ⟨by rfl, rfl⟩) E0.out ?_
    simp only [Act.put, List.setIfInBounds_toArray, List.set_cons_zero, List.set_cons_succ]
    refine wpAnyH_take (i := 6) (oi := { dst := some 16, op := Op.move (Operand.tmp 0), type := 22, pos := "frame.go:390", after := #[{ on := 2, ground := Ground.guard }], guard := some (2, true) }) (v := undef) rfl (by kernel_rfl) (by kernel_rfl) (by kernel_rfl) (fun _ _ _ h => h) (Or.inr ⟨by rfl, rfl⟩) E0.out ?_
    simp only [Act.put, List.setIfInBounds_toArray, List.set_cons_zero, List.set_cons_succ]
    refine wpAnyH_take (i := 7) (oi := { dst := some 17, op := Op.fieldAddr 31 (Operand.tmp 3) 2, type := 0, pos := "frame.go:390", after := #[{ on := 2, ground := Ground.guard }], guard := some (2, true) }) (v := undef) rfl (by kernel_rfl) (by kernel_rfl) (by kernel_rfl) (fun _ _ _ h => h) (Or.inr ⟨by rfl, rfl⟩) E0.out ?_
    simp only [Act.put, List.setIfInBounds_toArray, List.set_cons_zero, List.set_cons_succ]
    refine wpAnyH_take (i := 8) (oi := { dst := some 18, op := Op.load 3 (Operand.tmp 17), type := 3, pos := "frame.go:390", after := #[{ on := 7, ground := Ground.data }, { on := 2, ground := Ground.guard }], guard := some (2, true) }) (v := undef) rfl (by kernel_rfl) (by kernel_rfl) (by kernel_rfl) (fun _ _ _ h => h) (Or.inr ⟨by rfl, rfl⟩) E0.out ?_
    simp only [Act.put, List.setIfInBounds_toArray, List.set_cons_zero, List.set_cons_succ]
    refine wpAnyH_take (i := 9) (oi := { dst := some 19, op := Op.fieldAddr 31 (Operand.tmp 3) 3, type := 0, pos := "frame.go:390", after := #[{ on := 2, ground := Ground.guard }], guard := some (2, true) }) (v := undef) rfl (by kernel_rfl) (by kernel_rfl) (by kernel_rfl) (fun _ _ _ h => h) (Or.inr ⟨by rfl, rfl⟩) E0.out ?_
    simp only [Act.put, List.setIfInBounds_toArray, List.set_cons_zero, List.set_cons_succ]
    refine wpAnyH_take (i := 10) (oi := { dst := some 20, op := Op.load 3 (Operand.tmp 19), type := 3, pos := "frame.go:390", after := #[{ on := 9, ground := Ground.data }, { on := 2, ground := Ground.guard }], guard := some (2, true) }) (v := undef) rfl (by kernel_rfl) (by kernel_rfl) (by kernel_rfl) (fun _ _ _ h => h) (Or.inr ⟨by rfl, rfl⟩) E0.out ?_
    simp only [Act.put, List.setIfInBounds_toArray, List.set_cons_zero, List.set_cons_succ]
    refine wpAnyH_take (i := 11) (oi := { dst := some 21, op := Op.slice 22 (Operand.tmp 16) (some (Operand.tmp 18)) (some (Operand.tmp 20)) none, type := 22, pos := "frame.go:390", after := #[{ on := 6, ground := Ground.data }, { on := 8, ground := Ground.data }, { on := 10, ground := Ground.data }, { on := 2, ground := Ground.guard }], guard := some (2, true) }) (v := undef) rfl (by kernel_rfl) (by kernel_rfl) (by kernel_rfl) (fun _ _ _ h => h) (Or.inr ⟨by rfl, rfl⟩) E0.out ?_
    simp only [Act.put, List.setIfInBounds_toArray, List.set_cons_zero, List.set_cons_succ]
    refine wpAnyH_take (i := 12) (oi := { dst := some 22, op := Op.fieldAddr 31 (Operand.tmp 3) 4, type := 0, pos := "frame.go:390", after := #[{ on := 2, ground := Ground.guard }], guard := some (2, true) }) (v := undef) rfl (by kernel_rfl) (by kernel_rfl) (by kernel_rfl) (fun _ _ _ h => h) (Or.inr ⟨by rfl, rfl⟩) E0.out ?_
    simp only [Act.put, List.setIfInBounds_toArray, List.set_cons_zero, List.set_cons_succ]
    refine wpAnyH_take (i := 13) (oi := { dst := some 23, op := Op.fieldAddr 29 (Operand.tmp 22) 1, type := 0, pos := "frame.go:390", after := #[{ on := 12, ground := Ground.data }, { on := 2, ground := Ground.guard }], guard := some (2, true) }) (v := undef) rfl (by kernel_rfl) (by kernel_rfl) (by kernel_rfl) (fun _ _ _ h => h) (Or.inr ⟨by rfl, rfl⟩) E0.out ?_
    simp only [Act.put, List.setIfInBounds_toArray, List.set_cons_zero, List.set_cons_succ]
    refine wpAnyH_take (i := 14) (oi := { dst := some 24, op := Op.load 26 (Operand.tmp 23), type := 26, pos := "frame.go:390", after := #[{ on := 13, ground := Ground.data }, { on := 2, ground := Ground.guard }], guard := some (2, true) }) (v := undef) rfl (by kernel_rfl) (by kernel_rfl) (by kernel_rfl) (fun _ _ _ h => h) (Or.inr ⟨by rfl, rfl⟩) E0.out ?_
    simp only [Act.put, List.setIfInBounds_toArray, List.set_cons_zero, List.set_cons_succ]
    refine wpAnyH_take (i := 15) (oi := { dst := some 25, op := Op.fieldAddr 31 (Operand.tmp 3) 4, type := 0, pos := "frame.go:390", after := #[{ on := 2, ground := Ground.guard }], guard := some (2, true) }) (v := undef) rfl (by kernel_rfl) (by kernel_rfl) (by kernel_rfl) (fun _ _ _ h => h) (Or.inr ⟨by rfl, rfl⟩) E0.out ?_
    simp only [Act.put, List.setIfInBounds_toArray, List.set_cons_zero, List.set_cons_succ]
    refine wpAnyH_take (i := 16) (oi := { dst := some 26, op := Op.fieldAddr 29 (Operand.tmp 25) 2, type := 0, pos := "frame.go:390", after := #[{ on := 15, ground := Ground.data }, { on := 2, ground := Ground.guard }], guard := some (2, true) }) (v := undef) rfl (by kernel_rfl) (by kernel_rfl) (by kernel_rfl) (fun _ _ _ h => h) (Or.inr ⟨by rfl, rfl⟩) E0.out ?_
    simp only [Act.put, List.setIfInBounds_toArray, List.set_cons_zero, List.set_cons_succ]
    refine wpAnyH_take (i := 17) (oi := { dst := some 27, op := Op.load 26 (Operand.tmp 26), type := 26, pos := "frame.go:390", after := #[{ on := 16, ground := Ground.data }, { on := 2, ground := Ground.guard }], guard := some (2, true) }) (v := undef) rfl (by kernel_rfl) (by kernel_rfl) (by kernel_rfl) (fun _ _ _ h => h) (Or.inr ⟨by rfl, rfl⟩) E0.out ?_
    simp only [Act.put, List.setIfInBounds_toArray, List.set_cons_zero, List.set_cons_succ]
    refine wpAnyH_take (i := 18) (oi := { dst := some 28, op := Op.call { callee := Callee.value (Operand.func 28), args := #[Operand.tmp 15, Operand.tmp 21, Operand.tmp 24, Operand.tmp 27], argTypes := #[5, 22, 26, 26] }, type := 4, pos := "frame.go:390", after := #[{ on := 5, ground := Ground.data }, { on := 11, ground := Ground.data }, { on := 14, ground := Ground.data }, { on := 17, ground := Ground.data }, { on := 2, ground := Ground.chain }, { on := 2, ground := Ground.guard }], guard := some (2, true) }) (v := undef) rfl (by kernel_rfl) (by kernel_rfl) (by kernel_rfl) (fun _ _ _ h => h) (Or.inr ⟨by rfl, rfl⟩) E0.out ?_
    simp only [Act.put, List.setIfInBounds_toArray, List.set_cons_zero, List.set_cons_succ]
    refine wpAnyH_take (i := 19) (oi := { dst := some 29, op := Op.pick (Operand.tmp 12) (Operand.tmp 28) (Operand.const (Value.bool false)), type := 4, pos := "frame.go:390", after := #[{ on := 2, ground := Ground.data }, { on := 18, ground := Ground.data }], guard := none }) (v := ?_) rfl (by kernel_rfl) (by kernel_rfl) (by kernel_rfl) (fun _ _ _ h => h) (Or.inl ⟨by rfl, ?_⟩) E0.out ?_
    rotate_left
    · (intro w1 hS; go_simp; try with_reducible rfl)
    simp only [Act.put, List.setIfInBounds_toArray, List.set_cons_zero, List.set_cons_succ]
    refine wpAnyH_take (i := 20) (oi := { dst := some 2, op := Op.assign (Operand.tmp 29), type := 4, pos := "frame.go:390", after := #[{ on := 19, ground := Ground.data }, { on := 18, ground := Ground.chain }, { on := 0, ground := Ground.phase }, { on := 1, ground := Ground.phase }, { on := 2, ground := Ground.phase }, { on := 3, ground := Ground.phase }, { on := 4, ground := Ground.phase }, { on := 5, ground := Ground.phase }, { on := 6, ground := Ground.phase }, { on := 7, ground := Ground.phase }, { on := 8, ground := Ground.phase }, { on := 9, ground := Ground.phase }, { on := 10, ground := Ground.phase }, { on := 11, ground := Ground.phase }, { on := 12, ground := Ground.phase }, { on := 13, ground := Ground.phase }, { on := 14, ground := Ground.phase }, { on := 15, ground := Ground.phase }, { on := 16, ground := Ground.phase }, { on := 17, ground := Ground.phase }, { on := 18, ground := Ground.phase }, { on := 19, ground := Ground.phase }], guard := none }) (v := ?_) rfl (by kernel_rfl) (by kernel_rfl) (by kernel_rfl) (fun _ _ _ h => h) (Or.inl ⟨by rfl, ?_⟩) E0.out ?_
    rotate_left
    · (intro w1 hS; go_simp; try with_reducible rfl)
    simp only [Act.put, List.setIfInBounds_toArray, List.set_cons_zero, List.set_cons_succ]
    refine wpAnyH_done (by kernel_rfl) ?_ _
    have hy := E0.out
    replace K := Lib.hid (K.out.trans (hy.mono K.out.size))
    replace HX := Lib.hid (HX.out.below hy HX.out.lt)
    clear hy E0
    go_wp2
    go_ret
    exact ⟨rfl, K.out⟩
  obtain ⟨hn, hf, hs⟩ := rr_yes zs h0
  obtain ⟨hat, hatl, -⟩ := net_ok zs hn
  have HDD := fhd_yes _ _ hf
  have hlow := HDD.low
  have hmid := HDD.mid
  have hhigh := HDD.high
  have hpr := HDD.pr
  have hsS := HDD.sA
  have hsD := HDD.sB
  have hbT : ∀ c ∈ pkt zs, c < 256 := fun c hc => hb c (List.mem_of_mem_drop hc)
  have hbP : ∀ c ∈ sgm zs, c < 256 := fun c hc => hb c (List.mem_of_mem_drop (List.mem_of_mem_take hc))
  have lT : (pkt zs).length = zs.length - (net zs).1 := by unfold pkt; rw [List.length_drop]
  rw [lT] at hhigh
  have hvw : vw zs = vcells (sixF zs) (net zs).1 ((net zs).1 + fS (sixF zs) (pkt zs)) ((net zs).1 + fL (sixF zs) (pkt zs)) (keyF zs) (fl (fP (sixF zs) (pkt zs)) (sgm zs)) := by unfold vw; rw [if_pos h0]
  unfold keyF at hvw
  obtain ⟨sg, hsg⟩ : ∃ x, x = (net zs).1 + fS (sixF zs) (pkt zs) := ⟨_, rfl⟩
  obtain ⟨en, hen⟩ : ∃ x, x = (net zs).1 + fL (sixF zs) (pkt zs) := ⟨_, rfl⟩
  rw [← hsg, ← hen] at hvw
  have hpt : sgm zs = (zs.drop sg).take (en - sg) := by
    unfold sgm; rw [← hsg, show fL (sixF zs) (pkt zs) - fS (sixF zs) (pkt zs) = en - sg by omega]
  have hlP : (sgm zs).length ≤ zs.length := by rw [hpt, List.length_take, List.length_drop]; omega
  obtain ⟨b, off, rfl, -⟩ := hr.cells (by omega)
  have hRP := subP hr sg (en - sg) (by omega)
  rw [← hpt] at hRP
  have hgf : gf zs = gd (fP (sixF zs) (pkt zs)) (sgm zs) (sixF zs) (lA (sixF zs) (pkt zs)) (sixF zs) (lB (sixF zs) (pkt zs)) := by unfold gf; rw [decide_eq_true h0, Bool.true_and]
  have hbk := (fun W z (h : Rd W z (nus .u8 (sgm zs))) => rgood_any (fP (sixF zs) (pkt zs)) z (sgm zs) (sixF zs) (lA (sixF zs) (pkt zs)) (sixF zs) (lB (sixF zs) (pkt zs)) W h hbP (by omega) (by omega) (lA_len _ _ hf) (lB_len _ _ hf) (lA_lt _ _ hbT) (lB_lt _ _ hbT))
  rw [← hgf, ← lA_eq, ← lB_eq] at hbk
  have CG := Lib.hid hbk
  obtain ⟨q5, q22⟩ := vpart (sixF zs) (net zs).1 sg en (fl (fP (sixF zs) (pkt zs)) (sgm zs)) (fP (sixF zs) (pkt zs)) (u2 (sgm zs) 0) (u2 (sgm zs) 2) _ _ hsS hsD
  obtain ⟨-, -, q2, q3, q4⟩ := vget (sixF zs) (net zs).1 sg en (fl (fP (sixF zs) (pkt zs)) (sgm zs)) (fP (sixF zs) (pkt zs)) (u2 (sgm zs) 0) (u2 (sgm zs) 2) (fA (sixF zs) (pkt zs)) (fB (sixF zs) (pkt zs))
  rw [← hvw] at q5 q22 q2 q3 q4
  obtain ⟨P2, hP3⟩ : ∃ P, P = (if cap = sg then some (⟨b, off, none⟩ : Addr) else some ⟨b, off + sg, none⟩) := ⟨_, rfl⟩
  rw [← hP3] at hRP
  have RP := Lib.hid hRP
  have HP2 := Lib.hid hP3
  have H2 := Lib.hid q2
  have H3 := Lib.hid q3
  have H4 := Lib.hid q4
  have PS := Lib.hid q5
  have PD := Lib.hid q22
  have IS := Lib.hid (i24.trans (congrArg some (show (17 : Nat) = (fA (sixF zs) (pkt zs)).toList.length by simp [hsS])))
  have ID := Lib.hid (i24.trans (congrArg some (show (17 : Nat) = (fB (sixF zs) (pkt zs)).toList.length by simp [hsD])))
  rw [h0] at CF
  have hse : sg ≤ en := by omega
  have hen2 : en ≤ zs.length := by omega
  unfold maxLen at hlm
  clear hr hb h0 hn hf hs hat hatl HDD hlow hmid hhigh hpr hsS hsD hbT hbP lT hvw hsg hen hpt hlP hRP hgf hbk q2 q3 q4 q5 q22 hP3 hz
  generalize gf zs = GF at *
  generalize fA (sixF zs) (pkt zs) = S at *
  generalize fB (sixF zs) (pkt zs) = D at *
  generalize fP (sixF zs) (pkt zs) = p at *
  generalize sgm zs = PT at *
  generalize vw zs = VW at *
  generalize zs.length = n at *
  go_enter Try.func14, Try.ntmps14
  go_wp2_with fail
  refine (CF.out _ (HR.out.below K.out)).mono ?_
  rintro e V1 ⟨rfl, hy⟩
  replace K := Lib.hid (K.out.trans (hy.mono K.out.size))
  clear hy
  go_wp2_with (((with_reducible refine wpList_blk_store (op := ⟨none, .store 31 (.tmp 3) (.tmp 8), _, _, _, _⟩) ?sg4 31 (.tmp 3) (.tmp 8) ?so4 (V1.heap.size) VW ?sx4 ?sy4 (Blk.new V1 31 #[Value.bool false, .int .i64 0, .int .i64 0, .int .i64 0, .int .u8 0, .bool false, .int .u8 0, .int .u8 0, .int .u8 0, .int .u8 0, .int .u8 0, .int .u8 0, .int .u8 0, .int .u8 0, .int .u8 0, .int .u8 0, .int .u8 0, .int .u8 0, .int .u8 0, .int .u8 0, .int .u8 0, .int .u8 0, .bool false, .int .u8 0, .int .u8 0, .int .u8 0, .int .u8 0, .int .u8 0, .int .u8 0, .int .u8 0, .int .u8 0, .int .u8 0, .int .u8 0, .int .u8 0, .int .u8 0, .int .u8 0, .int .u8 0, .int .u8 0, .int .u8 0, .int .u16 0, .int .u16 0, .int .u8 0]) YVW.out QVW.out AVW.out ?_); (case sg4 => rfl); (case so4 => rfl); (case sx4 => rfl); (case sy4 => rfl)))
  intro V2 hA hF hB
  have hy := ((Below.refl V1.heap.size V1).alloc (Nat.le_refl _) (.cells #[Value.bool false, .int .i64 0, .int .i64 0, .int .i64 0, .int .u8 0, .bool false, .int .u8 0, .int .u8 0, .int .u8 0, .int .u8 0, .int .u8 0, .int .u8 0, .int .u8 0, .int .u8 0, .int .u8 0, .int .u8 0, .int .u8 0, .int .u8 0, .int .u8 0, .int .u8 0, .int .u8 0, .int .u8 0, .bool false, .int .u8 0, .int .u8 0, .int .u8 0, .int .u8 0, .int .u8 0, .int .u8 0, .int .u8 0, .int .u8 0, .int .u8 0, .int .u8 0, .int .u8 0, .int .u8 0, .int .u8 0, .int .u8 0, .int .u8 0, .int .u8 0, .int .u16 0, .int .u16 0, .int .u8 0] 31)).trans (hB _ (Nat.le_refl _))
  replace K := Lib.hid (K.out.trans (hy.mono K.out.size))
  have HX := Lib.hid hA
  clear hA hF hB hy
  go_wp2_with fail
  refine wp_region_held (S := (fun w' : World => Below (V2.heap.size) V2 w')) (by kernel_rfl) ?_
  change wpAnyH _ _ _ _ _ _ _ _ V2.drew
  have hy : Below V2.heap.size V2 V2.drew := (Below.refl _ _).drew
  have hE0 : Below (V2.heap.size) V2 V2.drew := (Below.refl _ _).drew
  clear hy
  generalize V2.drew = Y2x0 at hE0  ⊢
  have E0 := Lib.hid hE0
  clear hE0
  refine wpAnyH_take (i := 0) (oi := { dst := some 10, op := Op.move (Operand.tmp 4), type := 3, pos := "frame.go:390", after := #[], guard := none }) (v := ?_) rfl (by kernel_rfl) (by kernel_rfl) (by kernel_rfl) (fun _ _ _ h => h) (Or.inl ⟨by rfl, ?_⟩) E0.out ?_
  rotate_left
  · (intro w1 hS; go_simp; try with_reducible rfl)
  simp only [Act.put, List.setIfInBounds_toArray, List.set_cons_zero, List.set_cons_succ]
  refine wpAnyH_take (i := 1) (oi := { dst := some 11, op := Op.binOp BinOp.eql 3 (Operand.tmp 10) (Operand.const (Value.int IntKind.i64 0)) 3, type := 4, pos := "frame.go:390", after := #[{ on := 0, ground := Ground.data }], guard := none }) (v := ?_) rfl (by kernel_rfl) (by kernel_rfl) (by kernel_rfl) (fun _ _ _ h => h) (Or.inl ⟨by rfl, ?_⟩) E0.out ?_
  rotate_left
  · (intro w1 hS; go_simp; try with_reducible rfl)
  simp only [Act.put, List.setIfInBounds_toArray, List.set_cons_zero, List.set_cons_succ]
  refine wpAnyH_take (i := 2) (oi := { dst := some 12, op := Op.move (Operand.tmp 11), type := 4, pos := "frame.go:390", after := #[{ on := 1, ground := Ground.data }], guard := none }) (v := ?_) rfl (by kernel_rfl) (by kernel_rfl) (by kernel_rfl) (fun _ _ _ h => h) (Or.inl ⟨by rfl, ?_⟩) E0.out ?_
  rotate_left
  · (intro w1 hS; go_simp; try with_reducible rfl)
  simp only [Act.put, List.setIfInBounds_toArray, List.set_cons_zero, List.set_cons_succ]
  refine wpAnyH_take (i := 3) (oi := { dst := some 13, op := Op.fieldAddr 31 (Operand.tmp 3) 4, type := 0, pos := "frame.go:390", after := #[{ on := 2, ground := Ground.guard }], guard := some (2, true) }) (v := ?_) rfl (by kernel_rfl) (by kernel_rfl) (by kernel_rfl) (fun _ _ _ h => h) (Or.inl ⟨by rfl, ?_⟩) E0.out ?_
  rotate_left
  · (intro w1 hS; go_simp; try with_reducible rfl)
  simp only [Act.put, List.setIfInBounds_toArray, List.set_cons_zero, List.set_cons_succ]
  refine wpAnyH_take (i := 4) (oi := { dst := some 14, op := Op.fieldAddr 29 (Operand.tmp 13) 0, type := 0, pos := "frame.go:390", after := #[{ on := 3, ground := Ground.data }, { on := 2, ground := Ground.guard }], guard := some (2, true) }) (v := ?_) rfl (by kernel_rfl) (by kernel_rfl) (by kernel_rfl) (fun _ _ _ h => h) (Or.inl ⟨by rfl, ?_⟩) E0.out ?_
  rotate_left
  · (intro w1 hS; go_simp; try with_reducible rfl)
  simp only [Act.put, List.setIfInBounds_toArray, List.set_cons_zero, List.set_cons_succ]
  refine wpAnyH_take (i := 5) (oi := { dst := some 15, op := Op.load 5 (Operand.tmp 14), type := 5, pos := "frame.go:390", after := #[{ on := 4, ground := Ground.data }, { on := 2, ground := Ground.guard }], guard := some (2, true) }) (v := ?_) rfl (by kernel_rfl) (by kernel_rfl) (by kernel_rfl) (fun _ _ _ h => h) (Or.inl ⟨by rfl, ?_⟩) E0.out ?_
  rotate_left
  · (intro w1 hS; have hW := hS; have q := ((HX.out.below hW HX.out.lt).cell 4).trans H4.out; clear hW hS; go_simp; try with_reducible rfl)
  simp only [Act.put, List.setIfInBounds_toArray, List.set_cons_zero, List.set_cons_succ]
  refine wpAnyH_take (i := 6) (oi := { dst := some 16, op := Op.move (Operand.tmp 0), type := 22, pos := "frame.go:390", after := #[{ on := 2, ground := Ground.guard }], guard := some (2, true) }) (v := ?_) rfl (by kernel_rfl) (by kernel_rfl) (by kernel_rfl) (fun _ _ _ h => h) (Or.inl ⟨by rfl, ?_⟩) E0.out ?_
  rotate_left
  · (intro w1 hS; go_simp; try with_reducible rfl)
  simp only [Act.put, List.setIfInBounds_toArray, List.set_cons_zero, List.set_cons_succ]
  refine wpAnyH_take (i := 7) (oi := { dst := some 17, op := Op.fieldAddr 31 (Operand.tmp 3) 2, type := 0, pos := "frame.go:390", after := #[{ on := 2, ground := Ground.guard }], guard := some (2, true) }) (v := ?_) rfl (by kernel_rfl) (by kernel_rfl) (by kernel_rfl) (fun _ _ _ h => h) (Or.inl ⟨by rfl, ?_⟩) E0.out ?_
  rotate_left
  · (intro w1 hS; go_simp; try with_reducible rfl)
  simp only [Act.put, List.setIfInBounds_toArray, List.set_cons_zero, List.set_cons_succ]
  refine wpAnyH_take (i := 8) (oi := { dst := some 18, op := Op.load 3 (Operand.tmp 17), type := 3, pos := "frame.go:390", after := #[{ on := 7, ground := Ground.data }, { on := 2, ground := Ground.guard }], guard := some (2, true) }) (v := ?_) rfl (by kernel_rfl) (by kernel_rfl) (by kernel_rfl) (fun _ _ _ h => h) (Or.inl ⟨by rfl, ?_⟩) E0.out ?_
  rotate_left
  · (intro w1 hS; have hW := hS; have q := ((HX.out.below hW HX.out.lt).cell 2).trans H2.out; clear hW hS; go_simp; try with_reducible rfl)
  simp only [Act.put, List.setIfInBounds_toArray, List.set_cons_zero, List.set_cons_succ]
  refine wpAnyH_take (i := 9) (oi := { dst := some 19, op := Op.fieldAddr 31 (Operand.tmp 3) 3, type := 0, pos := "frame.go:390", after := #[{ on := 2, ground := Ground.guard }], guard := some (2, true) }) (v := ?_) rfl (by kernel_rfl) (by kernel_rfl) (by kernel_rfl) (fun _ _ _ h => h) (Or.inl ⟨by rfl, ?_⟩) E0.out ?_
  rotate_left
  · (intro w1 hS; go_simp; try with_reducible rfl)
  simp only [Act.put, List.setIfInBounds_toArray, List.set_cons_zero, List.set_cons_succ]
  refine wpAnyH_take (i := 10) (oi := { dst := some 20, op := Op.load 3 (Operand.tmp 19), type := 3, pos := "frame.go:390", after := #[{ on := 9, ground := Ground.data }, { on := 2, ground := Ground.guard }], guard := some (2, true) }) (v := ?_) rfl (by kernel_rfl) (by kernel_rfl) (by kernel_rfl) (fun _ _ _ h => h) (Or.inl ⟨by rfl, ?_⟩) E0.out ?_
  rotate_left
  · (intro w1 hS; have hW := hS; have q := ((HX.out.below hW HX.out.lt).cell 3).trans H3.out; clear hW hS; go_simp; try with_reducible rfl)
  simp only [Act.put, List.setIfInBounds_toArray, List.set_cons_zero, List.set_cons_succ]
  refine wpAnyH_take (i := 11) (oi := { dst := some 21, op := Op.slice 22 (Operand.tmp 16) (some (Operand.tmp 18)) (some (Operand.tmp 20)) none, type := 22, pos := "frame.go:390", after := #[{ on := 6, ground := Ground.data }, { on := 8, ground := Ground.data }, { on := 10, ground := Ground.data }, { on := 2, ground := Ground.guard }], guard := some (2, true) }) (v := ?_) rfl (by kernel_rfl) (by kernel_rfl) (by kernel_rfl) (fun _ _ _ h => h) (Or.inl ⟨by rfl, ?_⟩) E0.out ?_
  rotate_left
  · (intro w1 hS; have hW := hS; have q : (sg : Int) ≤ (en : Int) := (by omega); have q3 : (en : Int) ≤ (cap : Int) := (by omega); have q2 := HP2.out.symm; clear hW hS; go_simp; try with_reducible rfl)
  simp only [Act.put, List.setIfInBounds_toArray, List.set_cons_zero, List.set_cons_succ]
  refine wpAnyH_take (i := 12) (oi := { dst := some 22, op := Op.fieldAddr 31 (Operand.tmp 3) 4, type := 0, pos := "frame.go:390", after := #[{ on := 2, ground := Ground.guard }], guard := some (2, true) }) (v := ?_) rfl (by kernel_rfl) (by kernel_rfl) (by kernel_rfl) (fun _ _ _ h => h) (Or.inl ⟨by rfl, ?_⟩) E0.out ?_
  rotate_left
  · (intro w1 hS; go_simp; try with_reducible rfl)
  simp only [Act.put, List.setIfInBounds_toArray, List.set_cons_zero, List.set_cons_succ]
  refine wpAnyH_take (i := 13) (oi := { dst := some 23, op := Op.fieldAddr 29 (Operand.tmp 22) 1, type := 0, pos := "frame.go:390", after := #[{ on := 12, ground := Ground.data }, { on := 2, ground := Ground.guard }], guard := some (2, true) }) (v := ?_) rfl (by kernel_rfl) (by kernel_rfl) (by kernel_rfl) (fun _ _ _ h => h) (Or.inl ⟨by rfl, ?_⟩) E0.out ?_
  rotate_left
  · (intro w1 hS; go_simp; try with_reducible rfl)
  simp only [Act.put, List.setIfInBounds_toArray, List.set_cons_zero, List.set_cons_succ]
  refine wpAnyH_take (i := 14) (oi := { dst := some 24, op := Op.load 26 (Operand.tmp 23), type := 26, pos := "frame.go:390", after := #[{ on := 13, ground := Ground.data }, { on := 2, ground := Ground.guard }], guard := some (2, true) }) (v := .agg S) rfl (by kernel_rfl) (by kernel_rfl) (by kernel_rfl) (fun _ _ _ h => h) (Or.inl ⟨by rfl, ?_⟩) E0.out ?_
  · (intro w1 hS; have hW := hS; exact exec_load 26 (.tmp 23) rfl _ rfl _ (by have h := run_part_load (P := Try.prog) 26 5 S.toList _ (HX.out.below hW HX.out.lt) PS.out Try.underlying26 rfl IS.out; rwa [Array.toArray_toList] at h))
  simp only [Act.put, List.setIfInBounds_toArray, List.set_cons_zero, List.set_cons_succ]
  refine wpAnyH_take (i := 15) (oi := { dst := some 25, op := Op.fieldAddr 31 (Operand.tmp 3) 4, type := 0, pos := "frame.go:390", after := #[{ on := 2, ground := Ground.guard }], guard := some (2, true) }) (v := ?_) rfl (by kernel_rfl) (by kernel_rfl) (by kernel_rfl) (fun _ _ _ h => h) (Or.inl ⟨by rfl, ?_⟩) E0.out ?_
  rotate_left
  · (intro w1 hS; go_simp; try with_reducible rfl)
  simp only [Act.put, List.setIfInBounds_toArray, List.set_cons_zero, List.set_cons_succ]
  refine wpAnyH_take (i := 16) (oi := { dst := some 26, op := Op.fieldAddr 29 (Operand.tmp 25) 2, type := 0, pos := "frame.go:390", after := #[{ on := 15, ground := Ground.data }, { on := 2, ground := Ground.guard }], guard := some (2, true) }) (v := ?_) rfl (by kernel_rfl) (by kernel_rfl) (by kernel_rfl) (fun _ _ _ h => h) (Or.inl ⟨by rfl, ?_⟩) E0.out ?_
  rotate_left
  · (intro w1 hS; go_simp; try with_reducible rfl)
  simp only [Act.put, List.setIfInBounds_toArray, List.set_cons_zero, List.set_cons_succ]
  refine wpAnyH_take (i := 17) (oi := { dst := some 27, op := Op.load 26 (Operand.tmp 26), type := 26, pos := "frame.go:390", after := #[{ on := 16, ground := Ground.data }, { on := 2, ground := Ground.guard }], guard := some (2, true) }) (v := .agg D) rfl (by kernel_rfl) (by kernel_rfl) (by kernel_rfl) (fun _ _ _ h => h) (Or.inl ⟨by rfl, ?_⟩) E0.out ?_
  · (intro w1 hS; have hW := hS; exact exec_load 26 (.tmp 26) rfl _ rfl _ (by have h := run_part_load (P := Try.prog) 26 22 D.toList _ (HX.out.below hW HX.out.lt) PD.out Try.underlying26 rfl ID.out; rwa [Array.toArray_toList] at h))
  simp only [Act.put, List.setIfInBounds_toArray, List.set_cons_zero, List.set_cons_succ]
  refine wpAnyH_ready (rs := [18]) (by kernel_rfl) (by simp) ?_
  refine AllReadyH.cons (o := { dst := some 28, op := Op.call { callee := Callee.value (Operand.func 28), args := #[Operand.tmp 15, Operand.tmp 21, Operand.tmp 24, Operand.tmp 27], argTypes := #[5, 22, 26, 26] }, type := 4, pos := "frame.go:390", after := #[{ on := 5, ground := Ground.data }, { on := 11, ground := Ground.data }, { on := 14, ground := Ground.data }, { on := 17, ground := Ground.data }, { on := 2, ground := Ground.chain }, { on := 2, ground := Ground.guard }], guard := some (2, true) }) rfl (fun KK hK => ?_) AllReadyH.nil
  go_simp
  refine (CG.out _ _ (RP.out.below (K.out.trans (E0.out.mono K.out.size)))).mono ?_
  rintro e Y2x1 ⟨rfl, hy⟩
  have E1 := Lib.hid (E0.out.trans (hy.mono E0.out.size))
  have C1 := Lib.hid E1.out
  clear hy E0
  refine hK.out _ _ C1.out (fun _ => ?_)
  clear hK KK
  refine wpAnyH_mono (S' := (fun w' : World => Below Y2x1.heap.size Y2x1 w')) (fun w1 h => C1.out.trans (h.mono C1.out.size)) _ _ _ _ ?_
  clear C1
  try simp only [Act.put, List.setIfInBounds_toArray, List.set_cons_zero, List.set_cons_succ]
  refine wpAnyH_take (i := 19) (oi := { dst := some 29, op := Op.pick (Operand.tmp 12) (Operand.tmp 28) (Operand.const (Value.bool false)), type := 4, pos := "frame.go:390", after := #[{ on := 2, ground := Ground.data }, { on := 18, ground := Ground.data }], guard := none }) (v := ?_) rfl (by kernel_rfl) (by kernel_rfl) (by kernel_rfl) (fun _ _ _ h => h) (Or.inl ⟨by rfl, ?_⟩) (Below.refl _ _) ?_
  rotate_left
  · (intro w1 hS; go_simp; try with_reducible rfl)
  simp only [Act.put, List.setIfInBounds_toArray, List.set_cons_zero, List.set_cons_succ]
  refine wpAnyH_take (i := 20) (oi := { dst := some 2, op := Op.assign (Operand.tmp 29), type := 4, pos := "frame.go:390", after := #[{ on := 19, ground := Ground.data }, { on := 18, ground := Ground.chain }, { on := 0, ground := Ground.phase }, { on := 1, ground := Ground.phase }, { on := 2, ground := Ground.phase }, { on := 3, ground := Ground.phase }, { on := 4, ground := Ground.phase }, { on := 5, ground := Ground.phase }, { on := 6, ground := Ground.phase }, { on := 7, ground := Ground.phase }, { on := 8, ground := Ground.phase }, { on := 9, ground := Ground.phase }, { on := 10, ground := Ground.phase }, { on := 11, ground := Ground.phase }, { on := 12, ground := Ground.phase }, { on := 13, ground := Ground.phase }, { on := 14, ground := Ground.phase }, { on := 15, ground := Ground.phase }, { on := 16, ground := Ground.phase }, { on := 17, ground := Ground.phase }, { on := 18, ground := Ground.phase }, { on := 19, ground := Ground.phase }], guard := none }) (v := ?_) rfl (by kernel_rfl) (by kernel_rfl) (by kernel_rfl) (fun _ _ _ h => h) (Or.inl ⟨by rfl, ?_⟩) (Below.refl _ _) ?_
  rotate_left
  · (intro w1 hS; go_simp; try with_reducible rfl)
  simp only [Act.put, List.setIfInBounds_toArray, List.set_cons_zero, List.set_cons_succ]
  refine wpAnyH_done (by kernel_rfl) ?_ _
  have hy := E1.out
  replace K := Lib.hid (K.out.trans (hy.mono K.out.size))
  replace HX := Lib.hid (HX.out.below hy HX.out.lt)
  clear hy E1
  go_wp2
  go_ret
  exact ⟨rfl, K.out⟩
end Go.Proofs.Ytopfbgoiehlhbaa

