/- Texts that the walks of this seat lean on, put together: each has its own remark below. -/
import Derived.WalkKit
import Derived.WalkSpells
import Derived.Handy
import Derived.Lib.Hide
import Derived.Test.YtnfanenaighflaaM01
import Derived.Test.YtnfanenaighflaaM03
import Derived.Test.YtnfanenaighflaaM04
import Derived.Test.YtnfanenaighflaaProg

/- bazaarref1.SixDest. -/
namespace Go.Proofs.Ytnfanenaighflaa
open Go.RowKit

theorem subP {w : World} {b off len cap : Nat} {k : IntKind} {bs : List Nat} (h : Rd w (.slice (some ⟨b, off, none⟩) len cap) (nus k bs)) (j m : Nat) (hc : j + m ≤ len) :
    Rd w (.slice (if cap = j then some ⟨b, off, none⟩ else some ⟨b, off + j, none⟩) m (cap - j)) (nus k ((bs.drop j).take m)) := by
  by_cases he : cap = j
  · rw [if_pos he]
    have h1 := h
    obtain ⟨a', cap', e, h1, h2, h3⟩ := h1
    simp only [Value.slice.injEq] at e
    obtain ⟨-, rfl, rfl⟩ := e
    have hm : m = 0 := by omega
    subst hm
    exact ⟨some ⟨b, off, none⟩, cap - j, by simp [nus], by simp [nus], by omega, .inl (by simp [nus])⟩
  · rw [if_neg he]; exact h.sub j m hc

set_option maxRecDepth 100000 in
set_option maxHeartbeats 2000000 in
theorem rdest_no (v : Value) (zs : List Nat) (six : Bool) (bs : List Nat) (w : World) (hr : Rd w v (nus .u8 zs)) (hb : ∀ c ∈ zs, c < 256) (h : f6 zs ≠ 0 ∨ six = false) :
    Calls Try.prog 14 #[v, adr six bs] w fun e w' => e = .returned (.slice none 0 0) ∧ Below w.heap.size w w' := by
  have K := Lib.hid (Below.refl w.heap.size w)
  have HR := Lib.hid hr
  unfold adr
  have C0 := Lib.hid (show (cellsA six bs)[0]? = some (.bool six) from cellsA_head _ _)
  have I0 := Lib.hid (show True from trivial)
  generalize cellsA six bs = c at *
  have CS := Lib.hid (fun W (h : Rd W v (nus .u8 zs)) => rsix_any v zs W h hb)
  have YH : Hid ((rd6 zs).size = Array.size (#[Value.int .i64 0, .int .i64 0, .int .u8 0, .bool false, .int .u8 0, .int .u8 0, .int .u8 0, .int .u8 0, .int .u8 0, .int .u8 0, .int .u8 0, .int .u8 0, .int .u8 0, .int .u8 0, .int .u8 0, .int .u8 0, .int .u8 0, .int .u8 0, .int .u8 0, .int .u8 0, .bool false, .int .u8 0, .int .u8 0, .int .u8 0, .int .u8 0, .int .u8 0, .int .u8 0, .int .u8 0, .int .u8 0, .int .u8 0, .int .u8 0, .int .u8 0, .int .u8 0, .int .u8 0, .int .u8 0, .int .u8 0, .int .u8 0] : Array Value)) := rd6_size zs
  have ZH := Lib.hid (i37.trans (congrArg some (rd6_size zs).symm))
  have AH := Lib.hid (rd6_all zs)
  have hlt := f6_lt zs
  obtain ⟨a, cap, rfl, -, -⟩ := rd_shape hr
  generalize rd6 zs = H at *
  generalize f6 zs = r at *
  generalize zs.length = n at *
  clear hr hb
  go_enter Try.func14, Try.ntmps14
  have hal := (Below.refl w.heap.size w).alloc (Nat.le_refl _) (.cells c 25)
  replace K := Lib.hid (K.out.trans (hal.mono K.out.size))
  replace HR := Lib.hid (HR.out.below hal)
  have N := Lib.hid (Blk.new w 25 c)
  clear hal
  go_wp2_with fail
  generalize (w.alloc (.cells c 25)) = V1 at *
  refine (CS.out _ HR.out).mono ?_
  rintro e V2 ⟨rfl, hy⟩
  replace K := Lib.hid (K.out.trans (hy.mono K.out.size))
  replace HR := Lib.hid (HR.out.below hy)
  replace N := Lib.hid (N.out.below hy N.out.lt)
  clear hy
  go_wp2_with (((with_reducible refine wpList_blk_store (op := ⟨none, .store 33 (.tmp 5) (.tmp 10), _, _, _, _⟩) ?sg1 33 (.tmp 5) (.tmp 10) ?so1 (V2.heap.size) H ?sx1 ?sy1 (Blk.new V2 33 #[Value.int .i64 0, .int .i64 0, .int .u8 0, .bool false, .int .u8 0, .int .u8 0, .int .u8 0, .int .u8 0, .int .u8 0, .int .u8 0, .int .u8 0, .int .u8 0, .int .u8 0, .int .u8 0, .int .u8 0, .int .u8 0, .int .u8 0, .int .u8 0, .int .u8 0, .int .u8 0, .bool false, .int .u8 0, .int .u8 0, .int .u8 0, .int .u8 0, .int .u8 0, .int .u8 0, .int .u8 0, .int .u8 0, .int .u8 0, .int .u8 0, .int .u8 0, .int .u8 0, .int .u8 0, .int .u8 0, .int .u8 0, .int .u8 0]) YH.out ZH.out AH.out ?_); (case sg1 => rfl); (case so1 => rfl); (case sx1 => rfl); (case sy1 => rfl)))
  have qNNH : w.heap.size < V2.heap.size := N.out.lt
  intro V3 hA hF hB
  have hy := ((Below.refl V2.heap.size V2).alloc (Nat.le_refl _) (.cells #[Value.int .i64 0, .int .i64 0, .int .u8 0, .bool false, .int .u8 0, .int .u8 0, .int .u8 0, .int .u8 0, .int .u8 0, .int .u8 0, .int .u8 0, .int .u8 0, .int .u8 0, .int .u8 0, .int .u8 0, .int .u8 0, .int .u8 0, .int .u8 0, .int .u8 0, .int .u8 0, .bool false, .int .u8 0, .int .u8 0, .int .u8 0, .int .u8 0, .int .u8 0, .int .u8 0, .int .u8 0, .int .u8 0, .int .u8 0, .int .u8 0, .int .u8 0, .int .u8 0, .int .u8 0, .int .u8 0, .int .u8 0, .int .u8 0] 33)).trans (hB _ (Nat.le_refl _))
  replace K := Lib.hid (K.out.trans (hy.mono K.out.size))
  replace HR := Lib.hid (HR.out.below hy)
  replace N := Lib.hid (N.out.below hy N.out.lt)
  have NH := Lib.hid hA
  clear hA hF hB hy
  have hc1 := (N.out.cell 0).trans C0.out
  by_cases hr0 : r = 0
  · obtain rfl : six = false := by rcases h with h | h; exact absurd hr0 h; exact h
    subst hr0
    clear h C0
    go_wp2
    go_ret
    exact ⟨rfl, K.out⟩
  · have g0 : ((r : Int) != 0) = true := by simp; omega
    clear h hr0 C0 hc1
    go_wp2
    go_ret
    exact ⟨rfl, K.out⟩

set_option maxRecDepth 100000 in
set_option maxHeartbeats 2000000 in
theorem rdest_yes (v : Value) (zs : List Nat) (bs : List Nat) (w : World) (hr : Rd w v (nus .u8 zs)) (hb : ∀ c ∈ zs, c < 256) (h : f6 zs = 0) (hz : zs.length ≤ 2000) (hl : bs.length = 16) :
    Calls Try.prog 14 #[v, adr true bs] w fun e w' => ∃ x, e = .returned x ∧ w'.ownsRow w.heap.size 5 1 x zs.length (nus .u8 (dst6 zs bs)) ∧ Below w.heap.size w w' := by
  obtain ⟨h40, -, -, -⟩ := f6_yes zs h
  have K := Lib.hid (Below.refl w.heap.size w)
  have HR := Lib.hid hr
  have CB := Lib.hid (fun w' => rbytes_own true bs hl w')
  unfold bytesA at CB
  rw [if_pos rfl, hl] at CB
  unfold adr at CB ⊢
  have C0 := Lib.hid (show (cellsA true bs)[0]? = some (.bool true) from cellsA_head _ _)
  have hcz : (cellsA true bs).size = 17 := by rw [cellsA_size, hl]
  generalize cellsA true bs = c at *
  have I := Lib.hid (i24.trans (congrArg some hcz.symm))
  have CS := Lib.hid (fun W (h : Rd W v (nus .u8 zs)) => rsix_any v zs W h hb)
  rw [h] at CS
  have YH : Hid ((rd6 zs).size = Array.size (#[Value.int .i64 0, .int .i64 0, .int .u8 0, .bool false, .int .u8 0, .int .u8 0, .int .u8 0, .int .u8 0, .int .u8 0, .int .u8 0, .int .u8 0, .int .u8 0, .int .u8 0, .int .u8 0, .int .u8 0, .int .u8 0, .int .u8 0, .int .u8 0, .int .u8 0, .int .u8 0, .bool false, .int .u8 0, .int .u8 0, .int .u8 0, .int .u8 0, .int .u8 0, .int .u8 0, .int .u8 0, .int .u8 0, .int .u8 0, .int .u8 0, .int .u8 0, .int .u8 0, .int .u8 0, .int .u8 0, .int .u8 0, .int .u8 0] : Array Value)) := rd6_size zs
  have ZH := Lib.hid (i37.trans (congrArg some (rd6_size zs).symm))
  have AH := Lib.hid (rd6_all zs)
  obtain ⟨a, cap, rfl, hlc, hlm⟩ := rd_shape hr
  obtain ⟨b, off, rfl, -⟩ := hr.cells (by omega)
  have R1 := Lib.hid (hr.front 24 (by omega))
  have hR2 := subP hr 40 (zs.length - 40) (by omega)
  obtain ⟨P, hP⟩ : ∃ P, P = (if cap = 40 then some (⟨b, off, none⟩ : Addr) else some ⟨b, off + 40, none⟩) := ⟨_, rfl⟩
  have hPn : P = none → cap - 40 = 0 := by intro e; rw [hP] at e; split at e <;> cases e
  rw [← hP] at hR2
  have R2 := Lib.hid hR2
  have HP := Lib.hid hP
  have HD : Hid (zs.take 24 ++ bs ++ (zs.drop 40).take (zs.length - 40) = dst6 zs bs) := by
    show _ = _
    unfold dst6 ov
    rw [show (zs.drop 40).take (zs.length - 40) = zs.drop 40 from List.take_of_length_le (by rw [List.length_drop]; exact Nat.le_refl _), hl, List.append_assoc]
  generalize dst6 zs bs = RES at *
  generalize (zs.drop 40).take (zs.length - 40) = T2 at *
  generalize zs.take 24 = T1 at *
  generalize rd6 zs = H at *
  generalize zs.length = n at *
  unfold maxLen at hlm
  clear hr hb hcz h hP hR2 hl
  go_enter Try.func14, Try.ntmps14
  have hal := (Below.refl w.heap.size w).alloc (Nat.le_refl _) (.cells c 25)
  replace K := Lib.hid (K.out.trans (hal.mono K.out.size))
  replace HR := Lib.hid (HR.out.below hal)
  have N := Lib.hid (Blk.new w 25 c)
  clear hal
  go_wp2_with fail
  generalize (w.alloc (.cells c 25)) = V1 at *
  refine (CS.out _ HR.out).mono ?_
  rintro e V2 ⟨rfl, hy⟩
  replace K := Lib.hid (K.out.trans (hy.mono K.out.size))
  replace HR := Lib.hid (HR.out.below hy)
  replace N := Lib.hid (N.out.below hy N.out.lt)
  clear hy
  go_wp2_with (((with_reducible refine wpList_blk_store (op := ⟨none, .store 33 (.tmp 5) (.tmp 10), _, _, _, _⟩) ?sg2 33 (.tmp 5) (.tmp 10) ?so2 (V2.heap.size) H ?sx2 ?sy2 (Blk.new V2 33 #[Value.int .i64 0, .int .i64 0, .int .u8 0, .bool false, .int .u8 0, .int .u8 0, .int .u8 0, .int .u8 0, .int .u8 0, .int .u8 0, .int .u8 0, .int .u8 0, .int .u8 0, .int .u8 0, .int .u8 0, .int .u8 0, .int .u8 0, .int .u8 0, .int .u8 0, .int .u8 0, .bool false, .int .u8 0, .int .u8 0, .int .u8 0, .int .u8 0, .int .u8 0, .int .u8 0, .int .u8 0, .int .u8 0, .int .u8 0, .int .u8 0, .int .u8 0, .int .u8 0, .int .u8 0, .int .u8 0, .int .u8 0, .int .u8 0]) YH.out ZH.out AH.out ?_); (case sg2 => rfl); (case so2 => rfl); (case sx2 => rfl); (case sy2 => rfl)))
  have qNNH : w.heap.size < V2.heap.size := N.out.lt
  intro V3 hA hF hB
  have hy := ((Below.refl V2.heap.size V2).alloc (Nat.le_refl _) (.cells #[Value.int .i64 0, .int .i64 0, .int .u8 0, .bool false, .int .u8 0, .int .u8 0, .int .u8 0, .int .u8 0, .int .u8 0, .int .u8 0, .int .u8 0, .int .u8 0, .int .u8 0, .int .u8 0, .int .u8 0, .int .u8 0, .int .u8 0, .int .u8 0, .int .u8 0, .int .u8 0, .bool false, .int .u8 0, .int .u8 0, .int .u8 0, .int .u8 0, .int .u8 0, .int .u8 0, .int .u8 0, .int .u8 0, .int .u8 0, .int .u8 0, .int .u8 0, .int .u8 0, .int .u8 0, .int .u8 0, .int .u8 0, .int .u8 0] 33)).trans (hB _ (Nat.le_refl _))
  replace K := Lib.hid (K.out.trans (hy.mono K.out.size))
  replace HR := Lib.hid (HR.out.below hy)
  replace N := Lib.hid (N.out.below hy N.out.lt)
  have NH := Lib.hid hA
  clear hA hF hB hy
  have hc1 := (N.out.cell 0).trans C0.out
  go_upto_region 4 with fail
  clear hc1
  have hlow : V3.heap.size ≤ V3.heap.size := Nat.le_refl _
  have qN := N.out.lt
  have qNH := NH.out.lt
  have qK := K.out.size
  replace R1 := Lib.hid (R1.out.below K.out)
  replace R2 := Lib.hid (R2.out.below K.out)
  refine wp_region_held (S := (fun w' : World => Below (V3.heap.size) V3 w')) (by kernel_rfl) ?_
  change wpAnyH _ _ _ _ _ _ _ _ V3.drew
  have hy : Below V3.heap.size V3 V3.drew := (Below.refl _ _).drew
  have hE0 : Below (V3.heap.size) V3 V3.drew := (Below.refl _ _).drew
  clear hy
  generalize V3.drew = Y4x0 at hE0  ⊢
  have E0 := Lib.hid hE0
  clear hE0
  refine wpAnyH_take (i := 1) (oi := { dst := some 20, op := Op.move (Operand.tmp 0), type := 22, pos := "frame.go:269", after := #[], guard := none }) (v := ?_) rfl (by kernel_rfl) (by kernel_rfl) (by kernel_rfl) (fun _ _ _ h => h) (Or.inl ⟨by rfl, ?_⟩) E0.out ?_
  rotate_left
  · (intro w1 hS; go_simp; try with_reducible rfl)
  simp only [Act.put, List.setIfInBounds_toArray, List.set_cons_zero, List.set_cons_succ]
  refine wpAnyH_take (i := 2) (oi := { dst := some 21, op := Op.slice 22 (Operand.tmp 20) none (some (Operand.const (Value.int IntKind.i64 24))) none, type := 22, pos := "frame.go:269", after := #[{ on := 1, ground := Ground.data }], guard := none }) (v := ?_) rfl (by kernel_rfl) (by kernel_rfl) (by kernel_rfl) (fun _ _ _ h => h) (Or.inl ⟨by rfl, ?_⟩) E0.out ?_
  rotate_left
  · (intro w1 hS; have hW := hS; have q : (24 : Int) ≤ (cap : Int) := (by omega); clear hW hS; go_simp; try with_reducible rfl)
  simp only [Act.put, List.setIfInBounds_toArray, List.set_cons_zero, List.set_cons_succ]
  refine wpAnyH_take (i := 4) (oi := { dst := some 23, op := Op.load 25 (Operand.tmp 3), type := 25, pos := "frame.go:269", after := #[], guard := none }) (v := .agg c) rfl (by kernel_rfl) (by kernel_rfl) (by kernel_rfl) (fun _ _ _ h => h) (Or.inl ⟨by rfl, ?_⟩) E0.out ?_
  · (intro w1 hS; have hW := hS; exact exec_load 25 (.tmp 3) rfl _ rfl _ (run_blk_load (P := Try.prog) 25 (w.heap.size) _ (N.out.below hW (by omega)) Try.underlying25 rfl I.out))
  simp only [Act.put, List.setIfInBounds_toArray, List.set_cons_zero, List.set_cons_succ]
  refine wpAnyH_take (i := 7) (oi := { dst := some 26, op := Op.move (Operand.tmp 0), type := 22, pos := "frame.go:269", after := #[], guard := none }) (v := ?_) rfl (by kernel_rfl) (by kernel_rfl) (by kernel_rfl) (fun _ _ _ h => h) (Or.inl ⟨by rfl, ?_⟩) E0.out ?_
  rotate_left
  · (intro w1 hS; go_simp; try with_reducible rfl)
  simp only [Act.put, List.setIfInBounds_toArray, List.set_cons_zero, List.set_cons_succ]
  refine wpAnyH_take (i := 8) (oi := { dst := some 27, op := Op.slice 22 (Operand.tmp 26) (some (Operand.const (Value.int IntKind.i64 40))) none none, type := 22, pos := "frame.go:269", after := #[{ on := 7, ground := Ground.data }], guard := none }) (v := ?_) rfl (by kernel_rfl) (by kernel_rfl) (by kernel_rfl) (fun _ _ _ h => h) (Or.inl ⟨by rfl, ?_⟩) E0.out ?_
  rotate_left
  · (intro w1 hS; have hW := hS; have q : (40 : Int) ≤ (n : Int) := (by omega); have q3 : (n : Int) ≤ (cap : Int) := (by omega); have q2 := HP.out.symm; clear hW hS; go_simp; try with_reducible rfl)
  simp only [Act.put, List.setIfInBounds_toArray, List.set_cons_zero, List.set_cons_succ]
  refine wpAnyH_ready (rs := [0]) (by kernel_rfl) (by simp) ?_
  refine AllReadyH.cons (o := { dst := some 19, op := Op.buildSlice 22 0 #[], type := 22, pos := "frame.go:269", after := #[], guard := none }) rfl (fun K hK => ?_) AllReadyH.nil
  go_simp
  have hy := (Below.refl Y4x0.heap.size Y4x0).alloc (Nat.le_refl _) (.cells #[] 5)
  have O := own_none Y4x0 5
  replace O := own_low (b1 := V3.heap.size) E0.out.size O
  have hg0 : V3.heap.size ≤ Y4x0.heap.size := E0.out.size
  generalize Y4x0.alloc (.cells #[] 5) = Y4x1 at O hy ⊢
  generalize Y4x0.heap.size = g0 at O hg0 ⊢
  replace O := Lib.hid O
  have E1 := Lib.hid (E0.out.trans (hy.mono (Nat.le_trans hlow E0.out.size)))
  have C1 := Lib.hid E1.out
  clear hy E0
  refine hK.out _ _ C1.out (fun _ => ?_)
  clear hK K
  clear C1
  try simp only [Act.put, List.setIfInBounds_toArray, List.set_cons_zero, List.set_cons_succ]
  refine wpAnyH_ready (rs := [3]) (by kernel_rfl) (by simp) ?_
  refine AllReadyH.cons (o := { dst := some 22, op := Op.call { callee := Callee.builtin Builtin.append, args := #[Operand.tmp 19, Operand.tmp 21], argTypes := #[22, 22] }, type := 22, pos := "frame.go:269", after := #[{ on := 0, ground := Ground.data }, { on := 2, ground := Ground.data }], guard := none }) rfl (fun K hK => ?_) AllReadyH.nil
  rw [if_pos (by rfl)]
  refine wp_app (.tmp 19) (.tmp 21) rfl (V3.heap.size) (.slice (some ⟨g0, 0, none⟩) 0 0) 0 [] rfl O.out (some ⟨b, off, none⟩) (24) (cap) T1 rfl (R1.out.below E1.out) (by intro e; cases e) (by omega) (Nat.le_trans hlow E1.out.size) ?_
  intro vx Y4x2 oz gz
  replace O := Lib.hid oz
  clear oz
  have E2 := Lib.hid (E1.out.grown gz (Nat.le_trans hlow E1.out.size) (fun k e => by cases e; first | exact Nat.le_refl _ | omega))
  obtain ⟨g1, c1, rfl, hc1, hc1m, hg1, hg1u⟩ := own_at O.out (by omega)
  clear gz E1
  refine hK.out _ _ E2.out (fun _ => ?_)
  clear hK K
  try simp only [Act.put, List.setIfInBounds_toArray, List.set_cons_zero, List.set_cons_succ]
  refine wpAnyH_ready (rs := [5]) (by kernel_rfl) (by simp) ?_
  refine AllReadyH.cons (o := { dst := some 24, op := Op.call { callee := Callee.value (Operand.func 25), args := #[Operand.tmp 23], argTypes := #[25] }, type := 22, pos := "frame.go:269", after := #[{ on := 4, ground := Ground.data }, { on := 3, ground := Ground.chain }], guard := none }) rfl (fun K hK => ?_) AllReadyH.nil
  go_simp
  refine (CB.out Y4x2).mono ?_
  rintro e Y4x3 ⟨z, rfl, hz, hy⟩
  replace O := Lib.hid (row_under O.out hy)
  have E3 := Lib.hid (E2.out.trans (hy.mono (Nat.le_trans hlow E2.out.size)))
  have C3 := Lib.hid E3.out
  have Z := Lib.hid (hz)
  clear hy E2
  refine hK.out _ _ C3.out (fun _ => ?_)
  clear hK K
  clear C3
  try simp only [Act.put, List.setIfInBounds_toArray, List.set_cons_zero, List.set_cons_succ]
  obtain ⟨gz, cz, rfl, -, -, -, -⟩ := own_at Z.out (by omega)
  refine wpAnyH_ready (rs := [6]) (by kernel_rfl) (by simp) ?_
  refine AllReadyH.cons (o := { dst := some 25, op := Op.call { callee := Callee.builtin Builtin.append, args := #[Operand.tmp 22, Operand.tmp 24], argTypes := #[22, 22] }, type := 22, pos := "frame.go:269", after := #[{ on := 3, ground := Ground.data }, { on := 5, ground := Ground.data }, { on := 5, ground := Ground.chain }], guard := none }) rfl (fun K hK => ?_) AllReadyH.nil
  rw [if_pos (by rfl)]
  refine wp_app (.tmp 22) (.tmp 24) rfl (V3.heap.size) (.slice (some ⟨g1, 0, none⟩) (0 + 24) c1) (0 + 24) ([] ++ T1) rfl O.out (some ⟨gz, 0, none⟩) (16) (cz) bs rfl (Rd.own Z.out) (by intro e; cases e) (by omega) (Nat.le_trans hlow E3.out.size) ?_
  intro vx Y4x4 oz gz
  clear Z
  replace O := Lib.hid oz
  clear oz
  have E4 := Lib.hid (E3.out.grown gz (Nat.le_trans hlow E3.out.size) (fun k e => by cases e; first | exact Nat.le_refl _ | omega))
  obtain ⟨g2, c2, rfl, hc2, hc2m, hg2, hg2u⟩ := own_at O.out (by omega)
  clear gz E3
  refine hK.out _ _ E4.out (fun _ => ?_)
  clear hK K
  try simp only [Act.put, List.setIfInBounds_toArray, List.set_cons_zero, List.set_cons_succ]
  refine wpAnyH_ready (rs := [9]) (by kernel_rfl) (by simp) ?_
  refine AllReadyH.cons (o := { dst := some 28, op := Op.call { callee := Callee.builtin Builtin.append, args := #[Operand.tmp 25, Operand.tmp 27], argTypes := #[22, 22] }, type := 22, pos := "frame.go:269", after := #[{ on := 6, ground := Ground.data }, { on := 8, ground := Ground.data }, { on := 6, ground := Ground.chain }], guard := none }) rfl (fun K hK => ?_) AllReadyH.nil
  rw [if_pos (by rfl)]
  refine wp_app (.tmp 25) (.tmp 27) rfl (V3.heap.size) (.slice (some ⟨g2, 0, none⟩) (0 + 24 + 16) c2) (0 + 24 + 16) ([] ++ T1 ++ bs) rfl O.out (P) (n - 40) (cap - 40) T2 rfl (R2.out.below E4.out) hPn (by omega) (Nat.le_trans hlow E4.out.size) ?_
  intro vx Y4x5 oz gz
  replace O := Lib.hid oz
  clear oz
  have E5 := Lib.hid (E4.out.grown gz (Nat.le_trans hlow E4.out.size) (fun k e => by cases e; first | exact Nat.le_refl _ | omega))
  obtain ⟨g3, c3, rfl, hc3, hc3m, hg3, hg3u⟩ := own_at O.out (by omega)
  clear gz E4
  refine hK.out _ _ E5.out (fun _ => ?_)
  clear hK K
  try simp only [Act.put, List.setIfInBounds_toArray, List.set_cons_zero, List.set_cons_succ]
  refine wpAnyH_take (i := 10) (oi := { dst := some 4, op := Op.assign (Operand.tmp 28), type := 22, pos := "frame.go:269", after := #[{ on := 9, ground := Ground.data }, { on := 9, ground := Ground.chain }, { on := 0, ground := Ground.phase }, { on := 1, ground := Ground.phase }, { on := 2, ground := Ground.phase }, { on := 3, ground := Ground.phase }, { on := 4, ground := Ground.phase }, { on := 5, ground := Ground.phase }, { on := 6, ground := Ground.phase }, { on := 7, ground := Ground.phase }, { on := 8, ground := Ground.phase }, { on := 9, ground := Ground.phase }], guard := none }) (v := ?_) rfl (by kernel_rfl) (by kernel_rfl) (by kernel_rfl) (fun _ _ _ h => h) (Or.inl ⟨by rfl, ?_⟩) E5.out ?_
  rotate_left
  · (intro w1 hS; go_simp; try with_reducible rfl)
  simp only [Act.put, List.setIfInBounds_toArray, List.set_cons_zero, List.set_cons_succ]
  refine wpAnyH_done (by kernel_rfl) ?_ _
  replace K := Lib.hid (K.out.trans (E5.out.mono (by omega)))
  replace N := Lib.hid (N.out.below E5.out (by omega))
  replace NH := Lib.hid (NH.out.below E5.out (by omega))
  clear E5
  have hn : 0 + 24 + 16 + (n - 40) = n := by omega
  rw [hn, List.nil_append, HD.out] at O
  rw [hn]
  go_wp2
  go_ret
  exact ⟨_, rfl, own_low qK O.out, K.out⟩
theorem rdest_any (v : Value) (zs : List Nat) (six : Bool) (bs : List Nat) (w : World) (hr : Rd w v (nus .u8 zs)) (hb : ∀ c ∈ zs, c < 256) (hz : zs.length ≤ 2000) (hl : bs.length = 16) :
    Calls Try.prog 14 #[v, adr six bs] w fun e w' => ∃ x, e = .returned x ∧ Rd w' x (nus .u8 (dOut zs six bs)) ∧ Below w.heap.size w w' := by
  unfold dOut
  by_cases h : f6 zs = 0 ∧ six = true
  · obtain ⟨h1, rfl⟩ := h
    rw [if_pos ⟨h1, rfl⟩]
    exact (rdest_yes v zs bs w hr hb h1 hz hl).mono fun _ _ ⟨x, e, o, b⟩ => ⟨x, e, Rd.own o, b⟩
  · rw [if_neg h]
    exact (rdest_no v zs six bs w hr hb (by cases six <;> simp_all)).mono fun _ _ ⟨e, b⟩ => ⟨_, e, rd_nil _ _, b⟩
end Go.Proofs.Ytnfanenaighflaa

/- bazaarref1.SixMake. -/
namespace Go.Proofs.Ytnfanenaighflaa
open Go.RowKit

set_option maxHeartbeats 1000000 in
theorem rmake_no (six1 six2 : Bool) (sb db : List Nat) (p : Int) (n : Int) (w : World) (h : mkOk six1 six2 n = false) :
    Calls Try.prog 12 #[adr six1 sb, adr six2 db, .int .u8 p, .int .i64 n] w fun e w' => e = .returned (.tuple #[.slice none 0 0, .bool false]) ∧ Below w.heap.size w w' := by
  unfold adr
  have e1 : (cellsA six1 sb)[0]? = some (.bool six1) := cellsA_head _ _
  have e2 : (cellsA six2 db)[0]? = some (.bool six2) := cellsA_head _ _
  generalize cellsA six1 sb = c1 at *
  generalize cellsA six2 db = c2 at *
  have B1 := (Below.refl w.heap.size w).alloc (Nat.le_refl _) (.cells c1 25)
  have HB := Lib.hid (B1.alloc B1.size (.cells c2 25))
  have hc1 := (((Blk.new w 25 c1).alloc (.cells c2 25)).cell 0).trans e1
  have hc2 := ((Blk.new (w.alloc (.cells c1 25)) 25 c2).cell 0).trans e2
  rw [World.size_alloc] at hc2
  unfold mkOk at h
  clear e1 e2 B1
  go_enter Try.func12, Try.ntmps12
  cases six1 with
  | false =>
    clear h
    go_wp2
    go_ret2
    exact ⟨rfl, HB.out⟩
  | true =>
    cases six2 with
    | false =>
      clear h
      go_wp2
      go_ret2
      exact ⟨rfl, HB.out⟩
    | true =>
      by_cases h0 : n < 0
      · clear h
        go_wp2
        go_ret2
        exact ⟨rfl, HB.out⟩
      · have h5 : 65535 < n := by
          rcases Int.lt_or_le 65535 n with h' | h'
          · exact h'
          · simp at h; omega
        clear h
        go_wp2
        go_ret2
        exact ⟨rfl, HB.out⟩

set_option maxRecDepth 100000 in
set_option maxHeartbeats 4000000 in
theorem rmake_yes (sb db : List Nat) (p n : Nat) (w : World) (hl1 : sb.length = 16) (hl2 : db.length = 16) (hn : n ≤ 65535) :
    Calls Try.prog 12 #[adr true sb, adr true db, .int .u8 (p : Int), .int .i64 (n : Int)] w fun e w' => ∃ x, e = .returned (.tuple #[x, .bool true]) ∧ w'.ownsRow w.heap.size 5 1 x 40 (nus .u8 (mk6 sb db p n)) ∧ Below w.heap.size w w' := by
  have CS := Lib.hid (fun w' => rbytes_own true sb hl1 w')
  have CD := Lib.hid (fun w' => rbytes_own true db hl2 w')
  unfold bytesA at CS CD
  rw [if_pos rfl, hl1] at CS
  rw [if_pos rfl, hl2] at CD
  unfold adr at CS CD ⊢
  have E1 := Lib.hid (show (cellsA true sb)[0]? = some (.bool true) from cellsA_head _ _)
  have E2 := Lib.hid (show (cellsA true db)[0]? = some (.bool true) from cellsA_head _ _)
  have z1 : (cellsA true sb).size = 17 := by rw [cellsA_size, hl1]
  have z2 : (cellsA true db).size = 17 := by rw [cellsA_size, hl2]
  have I1 := Lib.hid (i24.trans (congrArg some z1.symm))
  have I2 := Lib.hid (i24.trans (congrArg some z2.symm))
  obtain ⟨d1, hd1⟩ : ∃ d, d = n / 256 % 256 := ⟨_, rfl⟩
  obtain ⟨d2, hd2⟩ : ∃ d, d = n % 256 := ⟨_, rfl⟩
  have HM : Hid ([96, 0, 0, 0, d1, d2, p, 64] ++ sb ++ db = mk6 sb db p n) := by
    show _ = _
    rw [hd1, hd2]; simp [mk6, bg]
  have hw1 : IntKind.u8.wrap ((n : Int) / 256) = (d1 : Int) := by rw [IntKind.wrap_u8]; omega
  have hw2 : IntKind.u8.wrap (n : Int) = (d2 : Int) := by rw [IntKind.wrap_u8]; omega
  generalize mk6 sb db p n = M at *
  generalize cellsA true sb = c1 at *
  generalize cellsA true db = c2 at *
  have K := Lib.hid (Below.refl w.heap.size w)
  clear z1 z2 hl1 hl2 hd1 hd2
  go_enter Try.func12, Try.ntmps12
  have hal := (Below.refl w.heap.size w).alloc (Nat.le_refl _) (.cells c1 25)
  replace K := Lib.hid (K.out.trans (hal.mono K.out.size))
  have N1 := Lib.hid (Blk.new w 25 c1)
  clear hal
  have hal := (Below.refl (w.alloc (.cells c1 25)).heap.size (w.alloc (.cells c1 25))).alloc (Nat.le_refl _) (.cells c2 25)
  replace K := Lib.hid (K.out.trans (hal.mono K.out.size))
  replace N1 := Lib.hid (N1.out.below hal N1.out.lt)
  have N2q := Blk.new (w.alloc (.cells c1 25)) 25 c2
  simp only [World.size_alloc] at N2q
  have N2 := Lib.hid N2q
  clear N2q
  clear hal
  have hc1 := (N1.out.cell 0).trans E1.out
  have hc2 := (N2.out.cell 0).trans E2.out
  go_wp2_with fail
  have hzV1 : Hid (((w.alloc (.cells c1 25)).alloc (.cells c2 25)).heap.size = w.heap.size + 1 + 1) := by show _ = _; simp only [World.size_alloc]
  generalize ((w.alloc (.cells c1 25)).alloc (.cells c2 25)) = V1 at *
  clear hc1 hc2 E1 E2
  have O := Lib.hid (show (V1.alloc (.cells #[Value.int .u8 96, .int .u8 0, .int .u8 0, .int .u8 0, .int .u8 (d1 : Int), .int .u8 (d2 : Int), .int .u8 (p : Int), .int .u8 64] 5)).ownsRow V1.heap.size 5 1 (.slice (some ⟨V1.heap.size, 0, none⟩) 8 8) 8 (nus .u8 [96, 0, 0, 0, d1, d2, p, 64]) from own_lit V1 .u8 5 [96, 0, 0, 0, d1, d2, p, 64] 8 V1.heap.size rfl (by simp [maxLen]) (Nat.le_refl _))
  have q2 : w.heap.size + 1 < V1.heap.size := N2.out.lt
  have q1 : w.heap.size < V1.heap.size := by omega
  have hal := (Below.refl V1.heap.size V1).alloc (Nat.le_refl _) (.cells #[Value.int .u8 96, .int .u8 0, .int .u8 0, .int .u8 0, .int .u8 (d1 : Int), .int .u8 (d2 : Int), .int .u8 (p : Int), .int .u8 64] 5)
  have hbase := K.out.size
  replace K := Lib.hid (K.out.trans (hal.mono K.out.size))
  replace N1 := Lib.hid (N1.out.below hal N1.out.lt)
  replace N2 := Lib.hid (N2.out.below hal N2.out.lt)
  generalize V1.alloc (.cells #[Value.int .u8 96, .int .u8 0, .int .u8 0, .int .u8 0, .int .u8 (d1 : Int), .int .u8 (d2 : Int), .int .u8 (p : Int), .int .u8 64] 5) = V2 at *
  have hlow : V1.heap.size ≤ V2.heap.size := hal.size
  clear hal
  obtain ⟨g0, hg0⟩ : ∃ g, g = w.heap.size + 1 + 1 := ⟨_, rfl⟩
  rw [hzV1.out, ← hg0] at O hlow hbase q1 q2
  rw [← hg0]
  clear hg0
  refine wp_region_held (S := (fun w' : World => Below (g0) V2 w')) (by kernel_rfl) ?_
  change wpAnyH _ _ _ _ _ _ _ _ V2.drew
  have hy : Below V2.heap.size V2 V2.drew := (Below.refl _ _).drew
  have hE0 : Below (g0) V2 V2.drew := (Below.refl _ _).drew
  replace O := Lib.hid (row_under O.out hy)
  clear hy
  generalize V2.drew = Y4x0 at hE0 O ⊢
  have E0 := Lib.hid hE0
  clear hE0
  refine wpAnyH_take (i := 0) (oi := { dst := some 34, op := Op.move (Operand.tmp 10), type := 22, pos := "frame.go:278", after := #[], guard := none }) (v := ?_) rfl (by kernel_rfl) (by kernel_rfl) (by kernel_rfl) (fun _ _ _ h => h) (Or.inl ⟨by rfl, ?_⟩) E0.out ?_
  rotate_left
  · (intro w1 hS; go_simp; try with_reducible rfl)
  simp only [Act.put, List.setIfInBounds_toArray, List.set_cons_zero, List.set_cons_succ]
  refine wpAnyH_take (i := 1) (oi := { dst := some 35, op := Op.load 25 (Operand.tmp 4), type := 25, pos := "frame.go:278", after := #[], guard := none }) (v := .agg c1) rfl (by kernel_rfl) (by kernel_rfl) (by kernel_rfl) (fun _ _ _ h => h) (Or.inl ⟨by rfl, ?_⟩) E0.out ?_
  · (intro w1 hS; have hW := hS; exact exec_load 25 (.tmp 4) rfl _ rfl _ (run_blk_load (P := Try.prog) 25 (w.heap.size) _ (N1.out.below hW (by omega)) Try.underlying25 rfl I1.out))
  simp only [Act.put, List.setIfInBounds_toArray, List.set_cons_zero, List.set_cons_succ]
  refine wpAnyH_take (i := 4) (oi := { dst := some 38, op := Op.load 25 (Operand.tmp 5), type := 25, pos := "frame.go:278", after := #[], guard := none }) (v := .agg c2) rfl (by kernel_rfl) (by kernel_rfl) (by kernel_rfl) (fun _ _ _ h => h) (Or.inl ⟨by rfl, ?_⟩) E0.out ?_
  · (intro w1 hS; have hW := hS; exact exec_load 25 (.tmp 5) rfl _ rfl _ (run_blk_load (P := Try.prog) 25 (w.heap.size + 1) _ (N2.out.below hW (by omega)) Try.underlying25 rfl I2.out))
  simp only [Act.put, List.setIfInBounds_toArray, List.set_cons_zero, List.set_cons_succ]
  refine wpAnyH_ready (rs := [2]) (by kernel_rfl) (by simp) ?_
  refine AllReadyH.cons (o := { dst := some 36, op := Op.call { callee := Callee.value (Operand.func 25), args := #[Operand.tmp 35], argTypes := #[25] }, type := 22, pos := "frame.go:278", after := #[{ on := 1, ground := Ground.data }], guard := none }) rfl (fun K hK => ?_) AllReadyH.nil
  go_simp
  refine (CS.out Y4x0).mono ?_
  rintro e Y4x1 ⟨z, rfl, hz, hy⟩
  replace O := Lib.hid (row_under O.out hy)
  have E1 := Lib.hid (E0.out.trans (hy.mono (Nat.le_trans hlow E0.out.size)))
  have C1 := Lib.hid E1.out
  have Z := Lib.hid (hz)
  clear hz
  clear hy E0
  refine hK.out _ _ C1.out (fun _ => ?_)
  clear hK K
  clear C1
  try simp only [Act.put, List.setIfInBounds_toArray, List.set_cons_zero, List.set_cons_succ]
  obtain ⟨gz, cz, rfl, -, -, -, -⟩ := own_at Z.out (by omega)
  refine wpAnyH_ready (rs := [3]) (by kernel_rfl) (by simp) ?_
  refine AllReadyH.cons (o := { dst := some 37, op := Op.call { callee := Callee.builtin Builtin.append, args := #[Operand.tmp 34, Operand.tmp 36], argTypes := #[22, 22] }, type := 22, pos := "frame.go:278", after := #[{ on := 0, ground := Ground.data }, { on := 2, ground := Ground.data }, { on := 2, ground := Ground.chain }], guard := none }) rfl (fun K hK => ?_) AllReadyH.nil
  rw [if_pos (by rfl)]
  refine wp_app (.tmp 34) (.tmp 36) rfl (g0) (.slice (some ⟨g0, 0, none⟩) (8) 8) (8) [96, 0, 0, 0, d1, d2, p, 64] rfl O.out (some ⟨gz, 0, none⟩) (16) (cz) sb rfl (Rd.own Z.out) (by intro e; cases e) (by omega) (Nat.le_trans hlow E1.out.size) ?_
  intro vx Y4x2 oz gz
  clear Z
  replace O := Lib.hid oz
  clear oz
  have E2 := Lib.hid (E1.out.grown gz (Nat.le_trans hlow E1.out.size) (fun k e => by cases e; first | exact Nat.le_refl _ | omega))
  obtain ⟨g1, cz1, rfl, hcz1, hcz1m, hg1, hg1u⟩ := own_at O.out (by omega)
  clear gz E1
  refine hK.out _ _ E2.out (fun _ => ?_)
  clear hK K
  try simp only [Act.put, List.setIfInBounds_toArray, List.set_cons_zero, List.set_cons_succ]
  refine wpAnyH_ready (rs := [5]) (by kernel_rfl) (by simp) ?_
  refine AllReadyH.cons (o := { dst := some 39, op := Op.call { callee := Callee.value (Operand.func 25), args := #[Operand.tmp 38], argTypes := #[25] }, type := 22, pos := "frame.go:278", after := #[{ on := 4, ground := Ground.data }, { on := 3, ground := Ground.chain }], guard := none }) rfl (fun K hK => ?_) AllReadyH.nil
  go_simp
  refine (CD.out Y4x2).mono ?_
  rintro e Y4x3 ⟨z, rfl, hz, hy⟩
  replace O := Lib.hid (row_under O.out hy)
  have E3 := Lib.hid (E2.out.trans (hy.mono (Nat.le_trans hlow E2.out.size)))
  have C3 := Lib.hid E3.out
  have Z := Lib.hid (hz)
  clear hz
  clear hy E2
  refine hK.out _ _ C3.out (fun _ => ?_)
  clear hK K
  clear C3
  try simp only [Act.put, List.setIfInBounds_toArray, List.set_cons_zero, List.set_cons_succ]
  obtain ⟨gz, cz, rfl, -, -, -, -⟩ := own_at Z.out (by omega)
  refine wpAnyH_ready (rs := [6]) (by kernel_rfl) (by simp) ?_
  refine AllReadyH.cons (o := { dst := some 40, op := Op.call { callee := Callee.builtin Builtin.append, args := #[Operand.tmp 37, Operand.tmp 39], argTypes := #[22, 22] }, type := 22, pos := "frame.go:278", after := #[{ on := 3, ground := Ground.data }, { on := 5, ground := Ground.data }, { on := 5, ground := Ground.chain }], guard := none }) rfl (fun K hK => ?_) AllReadyH.nil
  rw [if_pos (by rfl)]
  refine wp_app (.tmp 37) (.tmp 39) rfl (g0) (.slice (some ⟨g1, 0, none⟩) (8 + 16) cz1) (8 + 16) ([96, 0, 0, 0, d1, d2, p, 64] ++ sb) rfl O.out (some ⟨gz, 0, none⟩) (16) (cz) db rfl (Rd.own Z.out) (by intro e; cases e) (by omega) (Nat.le_trans hlow E3.out.size) ?_
  intro vx Y4x4 oz gz
  clear Z
  replace O := Lib.hid oz
  clear oz
  have E4 := Lib.hid (E3.out.grown gz (Nat.le_trans hlow E3.out.size) (fun k e => by cases e; first | exact Nat.le_refl _ | omega))
  obtain ⟨g2, cz2, rfl, hcz2, hcz2m, hg2, hg2u⟩ := own_at O.out (by omega)
  clear gz E3
  refine hK.out _ _ E4.out (fun _ => ?_)
  clear hK K
  try simp only [Act.put, List.setIfInBounds_toArray, List.set_cons_zero, List.set_cons_succ]
  refine wpAnyH_take (i := 7) (oi := { dst := some 8, op := Op.assign (Operand.tmp 40), type := 22, pos := "frame.go:278", after := #[{ on := 6, ground := Ground.data }, { on := 6, ground := Ground.chain }, { on := 0, ground := Ground.phase }, { on := 1, ground := Ground.phase }, { on := 2, ground := Ground.phase }, { on := 3, ground := Ground.phase }, { on := 4, ground := Ground.phase }, { on := 5, ground := Ground.phase }, { on := 6, ground := Ground.phase }], guard := none }) (v := ?_) rfl (by kernel_rfl) (by kernel_rfl) (by kernel_rfl) (fun _ _ _ h => h) (Or.inl ⟨by rfl, ?_⟩) E4.out ?_
  rotate_left
  · (intro w1 hS; go_simp; try with_reducible rfl)
  simp only [Act.put, List.setIfInBounds_toArray, List.set_cons_zero, List.set_cons_succ]
  refine wpAnyH_take (i := 8) (oi := { dst := some 9, op := Op.assign (Operand.const (Value.bool true)), type := 4, pos := "frame.go:278", after := #[{ on := 7, ground := Ground.chain }, { on := 0, ground := Ground.phase }, { on := 1, ground := Ground.phase }, { on := 2, ground := Ground.phase }, { on := 3, ground := Ground.phase }, { on := 4, ground := Ground.phase }, { on := 5, ground := Ground.phase }, { on := 6, ground := Ground.phase }, { on := 7, ground := Ground.phase }], guard := none }) (v := ?_) rfl (by kernel_rfl) (by kernel_rfl) (by kernel_rfl) (fun _ _ _ h => h) (Or.inl ⟨by rfl, ?_⟩) E4.out ?_
  rotate_left
  · (intro w1 hS; go_simp; try with_reducible rfl)
  simp only [Act.put, List.setIfInBounds_toArray, List.set_cons_zero, List.set_cons_succ]
  refine wpAnyH_done (by kernel_rfl) ?_ _
  replace K := Lib.hid (K.out.trans (E4.out.mono (by omega)))
  replace N1 := Lib.hid (N1.out.below E4.out (by omega))
  replace N2 := Lib.hid (N2.out.below E4.out (by omega))
  clear E4
  rw [HM.out] at O
  go_wp2
  go_ret2
  exact ⟨_, rfl, own_low hbase O.out, K.out⟩
theorem rmake_any (six1 six2 : Bool) (sb db : List Nat) (p : Nat) (n : Int) (w : World) (hl1 : sb.length = 16) (hl2 : db.length = 16) :
    Calls Try.prog 12 #[adr six1 sb, adr six2 db, .int .u8 (p : Int), .int .i64 n] w fun e w' => ∃ x, e = .returned (.tuple #[x, .bool (mkOk six1 six2 n)]) ∧ Rd w' x (nus .u8 (mOut six1 six2 sb db p n)) ∧ Below w.heap.size w w' := by
  unfold mOut
  by_cases h : mkOk six1 six2 n = true
  · have h' := h
    unfold mkOk at h'
    obtain ⟨rfl, rfl, h0, h1⟩ : six1 = true ∧ six2 = true ∧ 0 ≤ n ∧ n ≤ 65535 := by simpa [and_assoc] using h'
    obtain ⟨k, rfl⟩ := Int.eq_ofNat_of_zero_le h0
    rw [if_pos h, h]
    exact (rmake_yes sb db p k w hl1 hl2 (by omega)).mono fun _ _ ⟨x, e, o, b⟩ => ⟨x, e, Rd.own o, b⟩
  · rw [if_neg h, Bool.eq_false_iff.2 h]
    exact (rmake_no six1 six2 sb db p n w (Bool.eq_false_iff.2 h)).mono fun _ _ ⟨e, b⟩ => ⟨_, e, rd_nil _ _, b⟩
end Go.Proofs.Ytnfanenaighflaa

/- A header of IPv6 that was made, with data behind: what is read of it, and where it goes. Nothing of the program. -/
namespace Go.Proofs.Ytnfanenaighflaa
open Go.RowKit

theorem take_app {α : Type} (a b : List α) (n : Nat) (h : a.length = n) : (a ++ b).take n = a := by subst h; simp
theorem drop_app {α : Type} (a b : List α) (n : Nat) (h : a.length = n) : (a ++ b).drop n = b := by subst h; simp
theorem bg2 (n : Nat) : bg 2 n = [n / 256 % 256, n % 256] := rfl
theorem mk6_cons (s d data : List Nat) (p n : Nat) : mk6 s d p n ++ data = [96, 0, 0, 0, n / 256 % 256, n % 256, p, 64] ++ (s ++ (d ++ data)) := by
  simp [mk6, bg2]
theorem mk6_u2 (s d data : List Nat) (p n : Nat) (hn : n ≤ 65535) : u2 (mk6 s d p n ++ data) 4 = n := by
  rw [mk6_cons]
  simp [u2]; omega
theorem mk6_f (s d data : List Nat) (p n : Nat) (hs : s.length = 16) (hd : d.length = 16) (hn : n ≤ 65535) (hp : p = 6 ∨ p = 17) (hl : n ≤ data.length) : f6 (mk6 s d p n ++ data) = 0 := by
  have hlen : (mk6 s d p n ++ data).length = 40 + data.length := by rw [List.length_append, mk6_length s d hs hd]
  have h0 : (mk6 s d p n ++ data).getD 0 0 = 96 := rfl
  have h6 : (mk6 s d p n ++ data).getD 6 0 = p := by rw [mk6_cons]; rfl
  unfold f6
  rw [hlen, mk6_u2 s d data p n hn, h0, h6, if_neg (by omega), if_neg (by omega), if_neg (by omega), if_neg (by omega), if_neg (by omega)]
theorem mk6_cut (s d data : List Nat) (p n : Nat) (hs : s.length = 16) (hd : d.length = 16) (hn : n ≤ 65535) (c : Nat) (hc : c < 40 + n) (hl : c ≤ 40 + data.length) : f6 ((mk6 s d p n ++ data).take c) = 1 := by
  have hlen : ((mk6 s d p n ++ data).take c).length = c := by rw [List.length_take, List.length_append, mk6_length s d hs hd]; omega
  unfold f6
  by_cases h : c < 40
  · rw [hlen, if_pos h]
  · rw [hlen, u2_take _ _ _ (by omega), mk6_u2 s d data p n hn, getD_take _ _ _ (by omega)]
    have h0 : (mk6 s d p n ++ data).getD 0 0 = 96 := rfl
    rw [h0, if_neg h, if_neg (by omega), if_pos hc]
theorem mk6_src (s d data : List Nat) (p n : Nat) (hs : s.length = 16) : ((mk6 s d p n ++ data).drop 8).take 16 = s := by
  rw [mk6_cons, drop_app _ _ 8 rfl, take_app _ _ 16 hs]
theorem mk6_dst (s d data : List Nat) (p n : Nat) (hs : s.length = 16) (hd : d.length = 16) : ((mk6 s d p n ++ data).drop 24).take 16 = d := by
  rw [mk6_cons, show [96, 0, 0, 0, n / 256 % 256, n % 256, p, 64] ++ (s ++ (d ++ data)) = ([96, 0, 0, 0, n / 256 % 256, n % 256, p, 64] ++ s) ++ (d ++ data) by simp, drop_app _ _ 24 (by simp [hs]), take_app _ _ 16 hd]
theorem mk6_hd (s d data : List Nat) (p n : Nat) (hs : s.length = 16) (hd : d.length = 16) (hn : n ≤ 65535) (hp : p = 6 ∨ p = 17) (hl : n ≤ data.length) :
    hd6 (mk6 s d p n ++ data) = scells (40 + n) p (cellsA true s) (cellsA true d) := by
  have h6 : (mk6 s d p n ++ data).getD 6 0 = p := by rw [mk6_cons]; rfl
  unfold hd6 srcA dstA
  rw [if_pos (mk6_f s d data p n hs hd hn hp hl), mk6_u2 s d data p n hn, h6, mk6_src s d data p n hs, mk6_dst s d data p n hs hd]
theorem mk6_go (s d e data : List Nat) (p n : Nat) (hs : s.length = 16) (hd : d.length = 16) (he : e.length = 16) : dst6 (mk6 s d p n ++ data) e = mk6 s e p n ++ data := by
  unfold dst6 ov
  have h : mk6 s d p n ++ data = ([96, 0, 0, 0, n / 256 % 256, n % 256, p, 64] ++ s) ++ (d ++ data) := by rw [mk6_cons]; simp
  rw [h, he, take_app _ _ 24 (by simp [hs]), show ([96, 0, 0, 0, n / 256 % 256, n % 256, p, 64] ++ s) ++ (d ++ data) = ([96, 0, 0, 0, n / 256 % 256, n % 256, p, 64] ++ s ++ d) ++ data by simp, drop_app _ _ 40 (by simp [hs, hd]), mk6_cons]
  simp
end Go.Proofs.Ytnfanenaighflaa

/- The contract of bazaaralike.Round. -/
namespace Go.Proofs.Ytnfanenaighflaa
open Go.RowKit

theorem round_math (k n : Int) (h : 0 < n) : (k.tmod n + n) % n = k % n := by
  rw [Int.add_emod_right, Int.tmod_eq_emod]
  split
  · simp
  · rw [show ((n.natAbs : Int)) = n from by omega, Int.sub_emod_right, Int.emod_emod_of_dvd _ (Int.dvd_refl n)]
set_option maxHeartbeats 400000 in
theorem round_any (k n : Int) (w : World) (h : 0 < n) (h2 : n ≤ 4611686018427387903) :
    Calls Try.prog 17 #[.int .i64 k, .int .i64 n] w fun e w' => e = .returned (.int .i64 (k % n)) ∧ w = w' := by
  have a1 := Int.lt_tmod_of_pos k h
  have a2 := Int.tmod_lt_of_pos k h
  have hm := Lib.hid (round_math k n h)
  go_enter Try.func17, Try.ntmps17
  go_wp2
  go_ret
  exact ⟨ret_int (by rw [← hm.out]), rfl⟩

end Go.Proofs.Ytnfanenaighflaa

/- A store into a part of a block that is known whole. Nothing of the program. -/
namespace Go.Proofs.Ytnfanenaighflaa
open Go.RowKit
theorem Blk.thereAt {w : World} {g : Nat} {t : TypeId} {cs : Array Value} (h : Blk w g t cs) {o n : Nat} (hn : o + n ≤ cs.size) : w.there g o n := fun j hj => by
  rw [h.cell (o + j), h.frozen (o + j)]
  simp
  omega
theorem wpList_part_store {P : Program} {w : World} {g : Nat} {t : TypeId} {cs : Array Value} {ops : Array Oper} {rest : List Oper} {op : Oper} {a : Act} {Q : Exit → Act → World → Prop} (hgd : op.guard = none) (ty : TypeId) (x y : Operand) (ho : op.op = .store ty x y)
    (off : Nat) (vs : Array Value) (hx : a.eval x = .pointer (some ⟨g, off, none⟩)) (hy : a.eval y = .agg vs) (hc : Blk w g t cs) (hs : off + vs.size ≤ cs.size)
    (hi : (P.info? ty).map (·.size) = some vs.size) (h1 : vs.all (·.oneCell') = true)
    (h : ∀ w', Blk w' g t (setL cs off vs.toList) → (∀ k, k ≠ g → w'.heap[k]? = w.heap[k]?) → (∀ B, B ≤ g → Below B w w') → wpList P ops Q rest (a.put op.dst undef) w') : wpList P ops Q (op :: rest) a w :=
  wpList_store_mid hgd ty x y ho g off vs hx hy (hc.thereAt hs) hi h1
    (h _ (Blk.setCells vs.toList off w cs hc) (fun k hk => setCells_far k hk _ _ _) (fun _ hB => setCells_below hB _ _ _ (Below.refl _ _)))
end Go.Proofs.Ytnfanenaighflaa

