/- Texts that the walks of this seat lean on, put together: each has its own remark below. -/
import Derived.Test.YtopfbgoiehlhbaaM01
import Derived.Test.YtopfbgoiehlhbaaM22
import Derived.Test.YtopfbgoiehlhbaaM23

/- The walk of FrameTells. -/
namespace Go.Proofs.Ytopfbgoiehlhbaa
open Go.RowKit

theorem RL.front {w : World} {a : Option Addr} {n c : Nat} {L : List (Nat × Nat)} (h : RL w (.slice a n c) L) (m : Nat) (hm : m ≤ L.length) : RL w (.slice a m c) (L.take m) := by
  obtain ⟨a', c', e, h1, h2⟩ := h
  simp only [Value.slice.injEq] at e
  obtain ⟨rfl, rfl, rfl⟩ := e
  have hl : (L.take m).length = m := by rw [List.length_take]; omega
  refine ⟨_, _, by rw [hl], by rw [hl]; omega, ?_⟩
  rcases h2 with h2 | ⟨g, rfl, hg, hc⟩
  · left; rw [h2]; simp
  · refine .inr ⟨g, rfl, hg, fun j u hj => hc j u ?_⟩
    have e : lcells L = lcells (L.take m) ++ lcells (L.drop m) := by rw [← lcells_append, List.take_append_drop]
    rw [e, List.getElem?_append_left (List.getElem?_eq_some_iff.1 hj).1]
    exact hj
theorem cutL_nat (L : List (Nat × Nat)) (k : Nat) : cutL L (k : Int) = L.take (min k L.length) := by
  unfold cutL
  split
  · congr 1; omega
  · rw [List.take_of_length_le (by omega)]
theorem lys_lt (zs : List Nat) : ∀ p ∈ lys zs, p.2 ≤ zs.length + 18 := by
  have h0 : ∀ p ∈ ly0 zs, p.2 ≤ 14 := by
    intro p hp
    unfold ly0 at hp
    split at hp <;> simp at hp
    · rcases hp with rfl | rfl <;> simp
    · subst hp; simp
  intro p hp
  unfold lys at hp
  by_cases h1 : (net zs).2.2 = 1
  · rw [if_pos h1] at hp; cases hp
  rw [if_neg h1] at hp
  by_cases h2 : (net zs).2.2 ≠ 0
  · rw [if_pos h2] at hp; have := h0 p hp; omega
  rw [if_neg h2] at hp
  have hn := net_ok zs (by omega)
  by_cases h3 : fhr (sixF zs) (pkt zs) ≠ 0
  · rw [if_pos h3] at hp; have := h0 p hp; omega
  rw [if_neg h3] at hp
  have hd := fhd_yes _ _ (Decidable.not_not.1 h3)
  have hl : (pkt zs).length = zs.length - (net zs).1 := by unfold pkt; rw [List.length_drop]
  have a1 := hd.mid
  have a2 := hd.high
  by_cases h4 : fs (fP (sixF zs) (pkt zs)) (sgm zs) ≠ 0
  · rw [if_pos h4] at hp
    rcases List.mem_append.1 hp with h | h
    · have := h0 p h; omega
    · simp at h; subst h; show (net zs).1 ≤ _; omega
  · rw [if_neg h4] at hp
    rcases List.mem_append.1 hp with h | h
    · rcases List.mem_append.1 h with h | h
      · have := h0 p h; omega
      · simp at h; subst h; show (net zs).1 ≤ _; omega
    · simp at h; subst h; show (net zs).1 + _ ≤ _; omega

set_option maxRecDepth 100000 in
set_option maxHeartbeats 4000000 in
theorem tells_walk (v : Value) (zs : List Nat) (most : Int) (w : World) (hr : Rd w v (nus .u8 zs)) (hb : ∀ c ∈ zs, c < 256) :
    Calls Try.prog 3 #[v, .int .i64 most] w fun e w' => e = .returned (.bool true) ∧ Below w.heap.size w w' := by
  have K := Lib.hid (Below.refl w.heap.size w)
  have HR := Lib.hid hr
  obtain ⟨a, cap, rfl, hlc, hlm⟩ := rd_shape hr
  by_cases hlen : 3000 < zs.length
  · clear hr hb
    generalize zs.length = n at *
    go_enter Try.func3, Try.ntmps3
    go_wp2_with fail
    refine (awake_any _).mono ?_
    rintro e w1 ⟨rfl, hy⟩
    go_wp2
    go_ret
    exact ⟨rfl, hy⟩
  have hz : zs.length ≤ 3000 := by omega
  have CR := Lib.hid (fun W (h : Rd W (.slice a zs.length cap) (nus .u8 zs)) => fread_any _ zs W h hb (.inl (by omega)))
  have CF := Lib.hid (fun W (h : Rd W (.slice a zs.length cap) (nus .u8 zs)) => rframe_any _ zs W h hb hz)
  have CL := Lib.hid (fun W (h : Rd W (.slice a zs.length cap) (nus .u8 zs)) => rlayers_any _ zs W h hb hz)
  have CG := Lib.hid (fun W (h : Rd W (.slice a zs.length cap) (nus .u8 zs)) => fgood_any _ zs W h hb (by omega))
  have CH := Lib.hid (fun W (h : Rd W (.slice a zs.length cap) (nus .u8 zs)) => rfgood_any _ zs W h hb hz)
  have CN := Lib.hid (fun W most (h : Rd W (.slice a zs.length cap) (nus .u8 zs)) => names_any _ zs most W h hb)
  have CM := Lib.hid (fun W (h : Rd W (.slice a zs.length cap) (nus .u8 zs)) => names_any _ zs (-1) W h hb)
  rw [show cutL (lys zs) (-1) = lys zs from by unfold cutL; rw [if_neg (by omega)]] at CM
  have hll := lys_lt zs
  have hl4 := lys_len zs
  have QV := fun W => eq_vw zs hb (by omega) W
  have zv := vw_size zs
  have Av := Lib.hid (vw_all zs)
  have hrr := rr_lt zs
  have CS := Lib.hid (fun x y W (h1 : RL W x (lys zs)) (h2 : RL W y (lys zs)) => same_any x y (lys zs) W h1 h2 (by omega) (fun p hp => by have := hll p hp; omega))
  obtain ⟨k, hk, hk6⟩ : ∃ k : Nat, most % 6 = (k : Int) ∧ k < 6 := ⟨(most % 6).toNat, by omega, by omega⟩
  have HK := Lib.hid hk
  obtain ⟨m, hm⟩ : ∃ m, m = min k (lys zs).length := ⟨_, rfl⟩
  have CT := Lib.hid (fun x y W (h1 : RL W x ((lys zs).take m)) (h2 : RL W y ((lys zs).take m)) => same_any x y ((lys zs).take m) W h1 h2 (by rw [List.length_take]; omega) (fun p hp => by have := hll p (List.mem_of_mem_take hp); omega))
  have CK := Lib.hid (fun W (h : Rd W (.slice a zs.length cap) (nus .u8 zs)) => CN.out W (k : Int) h)
  rw [cutL_nat, ← hm] at CK
  have hml : m ≤ (lys zs).length := by omega
  have HMIN := Lib.hid (show min (k : Int) ((lys zs).length : Int) = (m : Int) by omega)
  clear hr hb hk hll CN hm
  generalize vw zs = VA at *
  generalize rr zs = r at *
  generalize gf zs = GF at *
  generalize hLL : lys zs = LL at *
  clear hLL
  have Zv := Lib.hid (i72.trans (congrArg some zv.symm))
  have Yv : Hid (VA.size = Array.size (#[Value.bool false, .int .i64 0, .int .i64 0, .int .i64 0, .int .u8 0, .bool false, .int .u8 0, .int .u8 0, .int .u8 0, .int .u8 0, .int .u8 0, .int .u8 0, .int .u8 0, .int .u8 0, .int .u8 0, .int .u8 0, .int .u8 0, .int .u8 0, .int .u8 0, .int .u8 0, .int .u8 0, .int .u8 0, .bool false, .int .u8 0, .int .u8 0, .int .u8 0, .int .u8 0, .int .u8 0, .int .u8 0, .int .u8 0, .int .u8 0, .int .u8 0, .int .u8 0, .int .u8 0, .int .u8 0, .int .u8 0, .int .u8 0, .int .u8 0, .int .u8 0, .int .u16 0, .int .u16 0, .int .u8 0] : Array Value)) := zv
  obtain ⟨ln, hln⟩ : ∃ ln, ln = LL.length := ⟨_, rfl⟩
  rw [← hln] at hl4 hml HMIN
  have HLN := Lib.hid hln
  clear zv hln
  generalize zs.length = n at *
  have hdl : decide ((3000 : Int) < (n : Int)) = false := decide_eq_false (by omega)
  clear hlen
  go_enter Try.func3, Try.ntmps3
  go_wp2_with fail
  refine (CR.out _ (HR.out.below K.out)).mono ?_
  rintro e V1 ⟨rfl, hy⟩
  replace K := Lib.hid (K.out.trans (hy.mono K.out.size))
  clear hy
  go_wp2_with (((with_reducible refine wpList_blk_store (op := ⟨none, .store 31 (.tmp 5) (.tmp 18), _, _, _, _⟩) ?sg1 31 (.tmp 5) (.tmp 18) ?so1 (V1.heap.size) VA ?sx1 ?sy1 (Blk.new V1 31 #[Value.bool false, .int .i64 0, .int .i64 0, .int .i64 0, .int .u8 0, .bool false, .int .u8 0, .int .u8 0, .int .u8 0, .int .u8 0, .int .u8 0, .int .u8 0, .int .u8 0, .int .u8 0, .int .u8 0, .int .u8 0, .int .u8 0, .int .u8 0, .int .u8 0, .int .u8 0, .int .u8 0, .int .u8 0, .bool false, .int .u8 0, .int .u8 0, .int .u8 0, .int .u8 0, .int .u8 0, .int .u8 0, .int .u8 0, .int .u8 0, .int .u8 0, .int .u8 0, .int .u8 0, .int .u8 0, .int .u8 0, .int .u8 0, .int .u8 0, .int .u8 0, .int .u16 0, .int .u16 0, .int .u8 0]) Yv.out Zv.out Av.out ?_); (case sg1 => rfl); (case so1 => rfl); (case sx1 => rfl); (case sy1 => rfl)))
  intro V2 hA hF hB
  have hy := ((Below.refl V1.heap.size V1).alloc (Nat.le_refl _) (.cells #[Value.bool false, .int .i64 0, .int .i64 0, .int .i64 0, .int .u8 0, .bool false, .int .u8 0, .int .u8 0, .int .u8 0, .int .u8 0, .int .u8 0, .int .u8 0, .int .u8 0, .int .u8 0, .int .u8 0, .int .u8 0, .int .u8 0, .int .u8 0, .int .u8 0, .int .u8 0, .int .u8 0, .int .u8 0, .bool false, .int .u8 0, .int .u8 0, .int .u8 0, .int .u8 0, .int .u8 0, .int .u8 0, .int .u8 0, .int .u8 0, .int .u8 0, .int .u8 0, .int .u8 0, .int .u8 0, .int .u8 0, .int .u8 0, .int .u8 0, .int .u8 0, .int .u16 0, .int .u16 0, .int .u8 0] 31)).trans (hB _ (Nat.le_refl _))
  replace K := Lib.hid (K.out.trans (hy.mono K.out.size))
  have HX := Lib.hid hA
  clear hA hF hB hy
  go_wp2_with fail
  refine (CF.out _ (HR.out.below K.out)).mono ?_
  rintro e V3 ⟨rfl, hy⟩
  replace K := Lib.hid (K.out.trans (hy.mono K.out.size))
  replace HX := Lib.hid (HX.out.below hy HX.out.lt)
  clear hy
  go_wp2_with (((with_reducible refine wpList_blk_store (op := ⟨none, .store 31 (.tmp 7) (.tmp 23), _, _, _, _⟩) ?sg2 31 (.tmp 7) (.tmp 23) ?so2 (V3.heap.size) VA ?sx2 ?sy2 (Blk.new V3 31 #[Value.bool false, .int .i64 0, .int .i64 0, .int .i64 0, .int .u8 0, .bool false, .int .u8 0, .int .u8 0, .int .u8 0, .int .u8 0, .int .u8 0, .int .u8 0, .int .u8 0, .int .u8 0, .int .u8 0, .int .u8 0, .int .u8 0, .int .u8 0, .int .u8 0, .int .u8 0, .int .u8 0, .int .u8 0, .bool false, .int .u8 0, .int .u8 0, .int .u8 0, .int .u8 0, .int .u8 0, .int .u8 0, .int .u8 0, .int .u8 0, .int .u8 0, .int .u8 0, .int .u8 0, .int .u8 0, .int .u8 0, .int .u8 0, .int .u8 0, .int .u8 0, .int .u16 0, .int .u16 0, .int .u8 0]) Yv.out Zv.out Av.out ?_); (case sg2 => rfl); (case so2 => rfl); (case sx2 => rfl); (case sy2 => rfl)))
  have qHXHY : V1.heap.size < V3.heap.size := HX.out.lt
  intro V4 hA hF hB
  have hy := ((Below.refl V3.heap.size V3).alloc (Nat.le_refl _) (.cells #[Value.bool false, .int .i64 0, .int .i64 0, .int .i64 0, .int .u8 0, .bool false, .int .u8 0, .int .u8 0, .int .u8 0, .int .u8 0, .int .u8 0, .int .u8 0, .int .u8 0, .int .u8 0, .int .u8 0, .int .u8 0, .int .u8 0, .int .u8 0, .int .u8 0, .int .u8 0, .int .u8 0, .int .u8 0, .bool false, .int .u8 0, .int .u8 0, .int .u8 0, .int .u8 0, .int .u8 0, .int .u8 0, .int .u8 0, .int .u8 0, .int .u8 0, .int .u8 0, .int .u8 0, .int .u8 0, .int .u8 0, .int .u8 0, .int .u8 0, .int .u8 0, .int .u16 0, .int .u16 0, .int .u8 0] 31)).trans (hB _ (Nat.le_refl _))
  replace K := Lib.hid (K.out.trans (hy.mono K.out.size))
  replace HX := Lib.hid (HX.out.below hy HX.out.lt)
  have HY := Lib.hid hA
  clear hA hF hB hy
  clear hdl
  go_wp2_with fail
  refine (CL.out _ (HR.out.below K.out)).mono ?_
  rintro e V5 ⟨l, rfl, hl, hy⟩
  replace K := Lib.hid (K.out.trans (hy.mono K.out.size))
  replace HX := Lib.hid (HX.out.below hy HX.out.lt)
  replace HY := Lib.hid (HY.out.below hy HY.out.lt)
  rw [← HLN.out] at hl
  obtain ⟨al, cl, rfl⟩ := row_shape hl
  have hcl : (ln : Int) ≤ (cl : Int) := by
    obtain ⟨_, _, e, h, -⟩ := RL.own (show _ from (by rw [HLN.out] at hl; exact hl))
    simp only [Value.slice.injEq] at e; obtain ⟨-, -, rfl⟩ := e; rw [← HLN.out] at h; omega
  have R0 := Lib.hid (RL.own (by rw [HLN.out] at hl ⊢; exact hl) : RL V5 (.slice al ln cl) LL)
  have KL := Lib.hid (Below.refl V5.heap.size V5)
  clear hl
  clear hy
  go_wp2_with fail
  refine (round_any most 6 _ (by omega) (by omega)).mono ?_
  rintro e V6 ⟨rfl, rfl⟩
  rw [HK.out]
  go_wp2_with fail
  have HX0 := Lib.hid (HR.out.below K.out)
  have RX0 := Lib.hid (R0.out.below KL.out)
  clear HR R0 KL
  have qmin := HMIN.out
  go_wp2_with fail
  refine wp_region_held (S := (fun w' : World => Below (V5.heap.size) V5 w')) (by kernel_rfl) ?_
  change wpAnyH _ _ _ _ _ _ _ _ V5.drew
  have hy : Below V5.heap.size V5 V5.drew := (Below.refl _ _).drew
  have hE0 : Below (V5.heap.size) V5 V5.drew := (Below.refl _ _).drew
  clear hy
  generalize V5.drew = Y7x0 at hE0  ⊢
  have E0 := Lib.hid hE0
  clear hE0
  refine wpAnyH_take (i := 0) (oi := { dst := some 29, op := Op.load 31 (Operand.tmp 5), type := 31, pos := "law.go:60", after := #[], guard := none }) (v := .agg VA) rfl (by kernel_rfl) (by kernel_rfl) (by kernel_rfl) (fun _ _ _ h => h) (Or.inl ⟨by rfl, ?_⟩) E0.out ?_
  · (intro w1 hS; have hW := hS; exact exec_load 31 (.tmp 5) rfl _ rfl _ (run_blk_load (P := Try.prog) 31 (V1.heap.size) _ (HX.out.below hW HX.out.lt) Try.underlying31 rfl Zv.out))
  simp only [Act.put, List.setIfInBounds_toArray, List.set_cons_zero, List.set_cons_succ]
  refine wpAnyH_take (i := 1) (oi := { dst := some 30, op := Op.load 31 (Operand.tmp 7), type := 31, pos := "law.go:60", after := #[], guard := none }) (v := .agg VA) rfl (by kernel_rfl) (by kernel_rfl) (by kernel_rfl) (fun _ _ _ h => h) (Or.inl ⟨by rfl, ?_⟩) E0.out ?_
  · (intro w1 hS; have hW := hS; exact exec_load 31 (.tmp 7) rfl _ rfl _ (run_blk_load (P := Try.prog) 31 (V3.heap.size) _ (HY.out.below hW HY.out.lt) Try.underlying31 rfl Zv.out))
  simp only [Act.put, List.setIfInBounds_toArray, List.set_cons_zero, List.set_cons_succ]
  refine wpAnyH_take (i := 2) (oi := { dst := some 31, op := Op.binOp BinOp.eql 31 (Operand.tmp 29) (Operand.tmp 30) 31, type := 4, pos := "law.go:60", after := #[{ on := 0, ground := Ground.data }, { on := 1, ground := Ground.data }], guard := none }) (v := ?_) rfl (by kernel_rfl) (by kernel_rfl) (by kernel_rfl) (fun _ _ _ h => h) (Or.inl ⟨by rfl, ?_⟩) E0.out ?_
  rotate_left
  · (intro w1 hS; go_simp; try with_reducible rfl)
  simp only [Act.put, List.setIfInBounds_toArray, List.set_cons_zero, List.set_cons_succ]
  refine wpAnyH_take (i := 3) (oi := { dst := some 32, op := Op.move (Operand.tmp 31), type := 4, pos := "law.go:60", after := #[{ on := 2, ground := Ground.data }], guard := none }) (v := ?_) rfl (by kernel_rfl) (by kernel_rfl) (by kernel_rfl) (fun _ _ _ h => h) (Or.inl ⟨by rfl, ?_⟩) E0.out ?_
  rotate_left
  · (intro w1 hS; go_simp; try with_reducible rfl)
  simp only [Act.put, List.setIfInBounds_toArray, List.set_cons_zero, List.set_cons_succ]
  refine wpAnyH_take (i := 4) (oi := { dst := some 33, op := Op.move (Operand.tmp 6), type := 3, pos := "law.go:60", after := #[{ on := 3, ground := Ground.guard }], guard := some (3, true) }) (v := ?_) rfl (by kernel_rfl) (by kernel_rfl) (by kernel_rfl) (fun _ _ _ h => h) (Or.inl ⟨by rfl, ?_⟩) E0.out ?_
  rotate_left
  · (intro w1 hS; go_simp; try with_reducible rfl)
  simp only [Act.put, List.setIfInBounds_toArray, List.set_cons_zero, List.set_cons_succ]
  refine wpAnyH_take (i := 5) (oi := { dst := some 34, op := Op.move (Operand.tmp 8), type := 3, pos := "law.go:60", after := #[{ on := 3, ground := Ground.guard }], guard := some (3, true) }) (v := ?_) rfl (by kernel_rfl) (by kernel_rfl) (by kernel_rfl) (fun _ _ _ h => h) (Or.inl ⟨by rfl, ?_⟩) E0.out ?_
  rotate_left
  · (intro w1 hS; go_simp; try with_reducible rfl)
  simp only [Act.put, List.setIfInBounds_toArray, List.set_cons_zero, List.set_cons_succ]
  refine wpAnyH_take (i := 6) (oi := { dst := some 35, op := Op.binOp BinOp.eql 3 (Operand.tmp 33) (Operand.tmp 34) 3, type := 4, pos := "law.go:60", after := #[{ on := 4, ground := Ground.data }, { on := 5, ground := Ground.data }, { on := 3, ground := Ground.guard }], guard := some (3, true) }) (v := ?_) rfl (by kernel_rfl) (by kernel_rfl) (by kernel_rfl) (fun _ _ _ h => h) (Or.inl ⟨by rfl, ?_⟩) E0.out ?_
  rotate_left
  · (intro w1 hS; go_simp; try with_reducible rfl)
  simp only [Act.put, List.setIfInBounds_toArray, List.set_cons_zero, List.set_cons_succ]
  refine wpAnyH_take (i := 7) (oi := { dst := some 36, op := Op.pick (Operand.tmp 32) (Operand.tmp 35) (Operand.const (Value.bool false)), type := 4, pos := "law.go:60", after := #[{ on := 3, ground := Ground.data }, { on := 6, ground := Ground.data }], guard := none }) (v := ?_) rfl (by kernel_rfl) (by kernel_rfl) (by kernel_rfl) (fun _ _ _ h => h) (Or.inl ⟨by rfl, ?_⟩) E0.out ?_
  rotate_left
  · (intro w1 hS; go_simp; try with_reducible rfl)
  simp only [Act.put, List.setIfInBounds_toArray, List.set_cons_zero, List.set_cons_succ]
  refine wpAnyH_take (i := 8) (oi := { dst := some 37, op := Op.move (Operand.tmp 36), type := 4, pos := "law.go:60", after := #[{ on := 7, ground := Ground.data }, { on := 3, ground := Ground.chain }], guard := none }) (v := ?_) rfl (by kernel_rfl) (by kernel_rfl) (by kernel_rfl) (fun _ _ _ h => h) (Or.inl ⟨by rfl, ?_⟩) E0.out ?_
  rotate_left
  · (intro w1 hS; go_simp; try with_reducible rfl)
  simp only [Act.put, List.setIfInBounds_toArray, List.set_cons_zero, List.set_cons_succ]
  refine wpAnyH_take (i := 9) (oi := { dst := some 38, op := Op.move (Operand.tmp 0), type := 22, pos := "law.go:60", after := #[{ on := 8, ground := Ground.guard }], guard := some (8, true) }) (v := ?_) rfl (by kernel_rfl) (by kernel_rfl) (by kernel_rfl) (fun _ _ _ h => h) (Or.inl ⟨by rfl, ?_⟩) E0.out ?_
  rotate_left
  · (intro w1 hS; go_simp; try with_reducible rfl)
  simp only [Act.put, List.setIfInBounds_toArray, List.set_cons_zero, List.set_cons_succ]
  refine wpAnyH_take (i := 11) (oi := { dst := some 40, op := Op.move (Operand.tmp 0), type := 22, pos := "law.go:60", after := #[{ on := 8, ground := Ground.guard }], guard := some (8, true) }) (v := ?_) rfl (by kernel_rfl) (by kernel_rfl) (by kernel_rfl) (fun _ _ _ h => h) (Or.inl ⟨by rfl, ?_⟩) E0.out ?_
  rotate_left
  · (intro w1 hS; go_simp; try with_reducible rfl)
  simp only [Act.put, List.setIfInBounds_toArray, List.set_cons_zero, List.set_cons_succ]
  refine wpAnyH_ready (rs := [10]) (by kernel_rfl) (by simp) ?_
  refine AllReadyH.cons (o := { dst := some 39, op := Op.call { callee := Callee.value (Operand.func 13), args := #[Operand.tmp 38], argTypes := #[22] }, type := 4, pos := "law.go:60", after := #[{ on := 9, ground := Ground.data }, { on := 8, ground := Ground.chain }, { on := 8, ground := Ground.guard }], guard := some (8, true) }) rfl (fun KK hK => ?_) AllReadyH.nil
  go_simp
  refine (CG.out Y7x0 (HX0.out.below E0.out)).mono ?_
  rintro e Y7x1 ⟨rfl, hy⟩
  have E1 := Lib.hid (E0.out.trans (hy.mono E0.out.size))
  have C1 := Lib.hid E1.out
  clear hy E0
  refine hK.out _ _ C1.out (fun _ => ?_)
  clear hK KK
  refine wpAnyH_mono (S' := (fun w' : World => Below Y7x1.heap.size Y7x1 w')) (fun w1 h => C1.out.trans (h.mono C1.out.size)) _ _ _ _ ?_
  clear C1
  try simp only [Act.put, List.setIfInBounds_toArray, List.set_cons_zero, List.set_cons_succ]
  refine wpAnyH_ready (rs := [12]) (by kernel_rfl) (by simp) ?_
  refine AllReadyH.cons (o := { dst := some 41, op := Op.call { callee := Callee.value (Operand.func 14), args := #[Operand.tmp 40], argTypes := #[22] }, type := 4, pos := "law.go:60", after := #[{ on := 11, ground := Ground.data }, { on := 10, ground := Ground.chain }, { on := 8, ground := Ground.guard }], guard := some (8, true) }) rfl (fun KK hK => ?_) AllReadyH.nil
  go_simp
  refine (CH.out Y7x1 (HX0.out.below E1.out)).mono ?_
  rintro e Y7x2 ⟨rfl, hy⟩
  have E2 := Lib.hid (E1.out.trans (hy.mono E1.out.size))
  have C2 := Lib.hid hy
  clear hy E1
  refine hK.out _ _ C2.out (fun _ => ?_)
  clear hK KK
  refine wpAnyH_mono (S' := (fun w' : World => Below Y7x2.heap.size Y7x2 w')) (fun w1 h => C2.out.trans (h.mono C2.out.size)) _ _ _ _ ?_
  clear C2
  try simp only [Act.put, List.setIfInBounds_toArray, List.set_cons_zero, List.set_cons_succ]
  refine wpAnyH_take (i := 13) (oi := { dst := some 42, op := Op.binOp BinOp.eql 4 (Operand.tmp 39) (Operand.tmp 41) 4, type := 4, pos := "law.go:60", after := #[{ on := 10, ground := Ground.data }, { on := 12, ground := Ground.data }, { on := 8, ground := Ground.guard }], guard := some (8, true) }) (v := ?_) rfl (by kernel_rfl) (by kernel_rfl) (by kernel_rfl) (fun _ _ _ h => h) (Or.inl ⟨by rfl, ?_⟩) (Below.refl _ _) ?_
  rotate_left
  · (intro w1 hS; go_simp; try with_reducible rfl)
  simp only [Act.put, List.setIfInBounds_toArray, List.set_cons_zero, List.set_cons_succ]
  refine wpAnyH_take (i := 14) (oi := { dst := some 43, op := Op.pick (Operand.tmp 37) (Operand.tmp 42) (Operand.const (Value.bool false)), type := 4, pos := "law.go:60", after := #[{ on := 8, ground := Ground.data }, { on := 13, ground := Ground.data }], guard := none }) (v := ?_) rfl (by kernel_rfl) (by kernel_rfl) (by kernel_rfl) (fun _ _ _ h => h) (Or.inl ⟨by rfl, ?_⟩) (Below.refl _ _) ?_
  rotate_left
  · (intro w1 hS; go_simp; try with_reducible rfl)
  simp only [Act.put, List.setIfInBounds_toArray, List.set_cons_zero, List.set_cons_succ]
  refine wpAnyH_take (i := 15) (oi := { dst := some 44, op := Op.move (Operand.tmp 43), type := 4, pos := "law.go:60", after := #[{ on := 14, ground := Ground.data }, { on := 12, ground := Ground.chain }], guard := none }) (v := ?_) rfl (by kernel_rfl) (by kernel_rfl) (by kernel_rfl) (fun _ _ _ h => h) (Or.inl ⟨by rfl, ?_⟩) (Below.refl _ _) ?_
  rotate_left
  · (intro w1 hS; go_simp; try with_reducible rfl)
  simp only [Act.put, List.setIfInBounds_toArray, List.set_cons_zero, List.set_cons_succ]
  refine wpAnyH_take (i := 16) (oi := { dst := some 45, op := Op.move (Operand.tmp 0), type := 22, pos := "law.go:60", after := #[{ on := 15, ground := Ground.guard }], guard := some (15, true) }) (v := ?_) rfl (by kernel_rfl) (by kernel_rfl) (by kernel_rfl) (fun _ _ _ h => h) (Or.inl ⟨by rfl, ?_⟩) (Below.refl _ _) ?_
  rotate_left
  · (intro w1 hS; go_simp; try with_reducible rfl)
  simp only [Act.put, List.setIfInBounds_toArray, List.set_cons_zero, List.set_cons_succ]
  refine wpAnyH_take (i := 18) (oi := { dst := some 47, op := Op.move (Operand.tmp 9), type := 34, pos := "law.go:60", after := #[{ on := 15, ground := Ground.guard }], guard := some (15, true) }) (v := ?_) rfl (by kernel_rfl) (by kernel_rfl) (by kernel_rfl) (fun _ _ _ h => h) (Or.inl ⟨by rfl, ?_⟩) (Below.refl _ _) ?_
  rotate_left
  · (intro w1 hS; go_simp; try with_reducible rfl)
  simp only [Act.put, List.setIfInBounds_toArray, List.set_cons_zero, List.set_cons_succ]
  refine wpAnyH_ready (rs := [17]) (by kernel_rfl) (by simp) ?_
  refine AllReadyH.cons (o := { dst := some 46, op := Op.call { callee := Callee.value (Operand.func 16), args := #[Operand.tmp 45, Operand.const (Value.int IntKind.i64 (-1))], argTypes := #[22, 3] }, type := 34, pos := "law.go:60", after := #[{ on := 16, ground := Ground.data }, { on := 15, ground := Ground.chain }, { on := 15, ground := Ground.guard }], guard := some (15, true) }) rfl (fun KK hK => ?_) AllReadyH.nil
  go_simp
  refine (CM.out Y7x2 (HX0.out.below E2.out)).mono ?_
  rintro e Y7x3 ⟨x, rfl, hx, hy⟩
  have E3 := Lib.hid (E2.out.trans (hy.mono E2.out.size))
  have C3 := Lib.hid hy
  have X1 := Lib.hid (RL.own hx)
  clear hx
  clear hy E2
  refine hK.out _ _ C3.out (fun _ => ?_)
  clear hK KK
  refine wpAnyH_mono (S' := (fun w' : World => Below Y7x3.heap.size Y7x3 w')) (fun w1 h => C3.out.trans (h.mono C3.out.size)) _ _ _ _ ?_
  clear C3
  try simp only [Act.put, List.setIfInBounds_toArray, List.set_cons_zero, List.set_cons_succ]
  refine wpAnyH_ready (rs := [19]) (by kernel_rfl) (by simp) ?_
  refine AllReadyH.cons (o := { dst := some 48, op := Op.call { callee := Callee.value (Operand.func 15), args := #[Operand.tmp 46, Operand.tmp 47], argTypes := #[34, 34] }, type := 4, pos := "law.go:60", after := #[{ on := 17, ground := Ground.data }, { on := 18, ground := Ground.data }, { on := 17, ground := Ground.chain }, { on := 15, ground := Ground.guard }], guard := some (15, true) }) rfl (fun KK hK => ?_) AllReadyH.nil
  go_simp
  refine (CS.out x _ Y7x3 X1.out (RX0.out.below E3.out)).mono ?_
  rintro e Y7x4 ⟨rfl, hy⟩
  have E4 := Lib.hid (E3.out.trans (hy.mono E3.out.size))
  have C4 := Lib.hid hy
  clear X1
  clear hy E3
  refine hK.out _ _ C4.out (fun _ => ?_)
  clear hK KK
  refine wpAnyH_mono (S' := (fun w' : World => Below Y7x4.heap.size Y7x4 w')) (fun w1 h => C4.out.trans (h.mono C4.out.size)) _ _ _ _ ?_
  clear C4
  try simp only [Act.put, List.setIfInBounds_toArray, List.set_cons_zero, List.set_cons_succ]
  refine wpAnyH_take (i := 20) (oi := { dst := some 49, op := Op.pick (Operand.tmp 44) (Operand.tmp 48) (Operand.const (Value.bool false)), type := 4, pos := "law.go:60", after := #[{ on := 15, ground := Ground.data }, { on := 19, ground := Ground.data }], guard := none }) (v := ?_) rfl (by kernel_rfl) (by kernel_rfl) (by kernel_rfl) (fun _ _ _ h => h) (Or.inl ⟨by rfl, ?_⟩) (Below.refl _ _) ?_
  rotate_left
  · (intro w1 hS; go_simp; try with_reducible rfl)
  simp only [Act.put, List.setIfInBounds_toArray, List.set_cons_zero, List.set_cons_succ]
  refine wpAnyH_take (i := 21) (oi := { dst := some 50, op := Op.move (Operand.tmp 49), type := 4, pos := "law.go:60", after := #[{ on := 20, ground := Ground.data }, { on := 19, ground := Ground.chain }], guard := none }) (v := ?_) rfl (by kernel_rfl) (by kernel_rfl) (by kernel_rfl) (fun _ _ _ h => h) (Or.inl ⟨by rfl, ?_⟩) (Below.refl _ _) ?_
  rotate_left
  · (intro w1 hS; go_simp; try with_reducible rfl)
  simp only [Act.put, List.setIfInBounds_toArray, List.set_cons_zero, List.set_cons_succ]
  refine wpAnyH_take (i := 22) (oi := { dst := some 51, op := Op.move (Operand.tmp 0), type := 22, pos := "law.go:60", after := #[{ on := 21, ground := Ground.guard }], guard := some (21, true) }) (v := ?_) rfl (by kernel_rfl) (by kernel_rfl) (by kernel_rfl) (fun _ _ _ h => h) (Or.inl ⟨by rfl, ?_⟩) (Below.refl _ _) ?_
  rotate_left
  · (intro w1 hS; go_simp; try with_reducible rfl)
  simp only [Act.put, List.setIfInBounds_toArray, List.set_cons_zero, List.set_cons_succ]
  refine wpAnyH_take (i := 23) (oi := { dst := some 52, op := Op.move (Operand.tmp 10), type := 3, pos := "law.go:60", after := #[{ on := 21, ground := Ground.guard }], guard := some (21, true) }) (v := ?_) rfl (by kernel_rfl) (by kernel_rfl) (by kernel_rfl) (fun _ _ _ h => h) (Or.inl ⟨by rfl, ?_⟩) (Below.refl _ _) ?_
  rotate_left
  · (intro w1 hS; go_simp; try with_reducible rfl)
  simp only [Act.put, List.setIfInBounds_toArray, List.set_cons_zero, List.set_cons_succ]
  refine wpAnyH_take (i := 25) (oi := { dst := some 54, op := Op.move (Operand.tmp 9), type := 34, pos := "law.go:60", after := #[{ on := 21, ground := Ground.guard }], guard := some (21, true) }) (v := ?_) rfl (by kernel_rfl) (by kernel_rfl) (by kernel_rfl) (fun _ _ _ h => h) (Or.inl ⟨by rfl, ?_⟩) (Below.refl _ _) ?_
  rotate_left
  · (intro w1 hS; go_simp; try with_reducible rfl)
  simp only [Act.put, List.setIfInBounds_toArray, List.set_cons_zero, List.set_cons_succ]
  refine wpAnyH_take (i := 26) (oi := { dst := some 55, op := Op.move (Operand.tmp 10), type := 3, pos := "law.go:60", after := #[{ on := 21, ground := Ground.guard }], guard := some (21, true) }) (v := ?_) rfl (by kernel_rfl) (by kernel_rfl) (by kernel_rfl) (fun _ _ _ h => h) (Or.inl ⟨by rfl, ?_⟩) (Below.refl _ _) ?_
  rotate_left
  · (intro w1 hS; go_simp; try with_reducible rfl)
  simp only [Act.put, List.setIfInBounds_toArray, List.set_cons_zero, List.set_cons_succ]
  refine wpAnyH_take (i := 27) (oi := { dst := some 56, op := Op.move (Operand.tmp 9), type := 34, pos := "law.go:60", after := #[{ on := 21, ground := Ground.guard }], guard := some (21, true) }) (v := ?_) rfl (by kernel_rfl) (by kernel_rfl) (by kernel_rfl) (fun _ _ _ h => h) (Or.inl ⟨by rfl, ?_⟩) (Below.refl _ _) ?_
  rotate_left
  · (intro w1 hS; go_simp; try with_reducible rfl)
  simp only [Act.put, List.setIfInBounds_toArray, List.set_cons_zero, List.set_cons_succ]
  refine wpAnyH_take (i := 28) (oi := { dst := some 57, op := Op.call { callee := Callee.builtin Builtin.len, args := #[Operand.tmp 56], argTypes := #[34] }, type := 3, pos := "law.go:60", after := #[{ on := 27, ground := Ground.data }, { on := 21, ground := Ground.guard }], guard := some (21, true) }) (v := ?_) rfl (by kernel_rfl) (by kernel_rfl) (by kernel_rfl) (fun _ _ _ h => h) (Or.inl ⟨by rfl, ?_⟩) (Below.refl _ _) ?_
  rotate_left
  · (intro w1 hS; go_simp; try with_reducible rfl)
  simp only [Act.put, List.setIfInBounds_toArray, List.set_cons_zero, List.set_cons_succ]
  refine wpAnyH_take (i := 29) (oi := { dst := some 58, op := Op.call { callee := Callee.builtin Builtin.min, args := #[Operand.tmp 55, Operand.tmp 57], argTypes := #[3, 3] }, type := 3, pos := "law.go:60", after := #[{ on := 26, ground := Ground.data }, { on := 28, ground := Ground.data }, { on := 21, ground := Ground.guard }], guard := some (21, true) }) (v := ?_) rfl (by kernel_rfl) (by kernel_rfl) (by kernel_rfl) (fun _ _ _ h => h) (Or.inl ⟨by rfl, ?_⟩) (Below.refl _ _) ?_
  rotate_left
  · (intro w1 hS; have hW := E4.out.trans (hS.mono E4.out.size); have q := HMIN.out; clear hW hS; go_simp; try with_reducible rfl)
  simp only [Act.put, List.setIfInBounds_toArray, List.set_cons_zero, List.set_cons_succ]
  refine wpAnyH_take (i := 30) (oi := { dst := some 59, op := Op.slice 34 (Operand.tmp 54) none (some (Operand.tmp 58)) none, type := 34, pos := "law.go:60", after := #[{ on := 25, ground := Ground.data }, { on := 29, ground := Ground.data }, { on := 21, ground := Ground.guard }], guard := some (21, true) }) (v := ?_) rfl (by kernel_rfl) (by kernel_rfl) (by kernel_rfl) (fun _ _ _ h => h) (Or.inl ⟨by rfl, ?_⟩) (Below.refl _ _) ?_
  rotate_left
  · (intro w1 hS; have hW := E4.out.trans (hS.mono E4.out.size); have q : (m : Int) ≤ (cl : Int) := (by omega); clear hW hS; go_simp; try with_reducible rfl)
  simp only [Act.put, List.setIfInBounds_toArray, List.set_cons_zero, List.set_cons_succ]
  refine wpAnyH_ready (rs := [24]) (by kernel_rfl) (by simp) ?_
  refine AllReadyH.cons (o := { dst := some 53, op := Op.call { callee := Callee.value (Operand.func 16), args := #[Operand.tmp 51, Operand.tmp 52], argTypes := #[22, 3] }, type := 34, pos := "law.go:60", after := #[{ on := 22, ground := Ground.data }, { on := 23, ground := Ground.data }, { on := 21, ground := Ground.chain }, { on := 21, ground := Ground.guard }], guard := some (21, true) }) rfl (fun KK hK => ?_) AllReadyH.nil
  go_simp
  refine (CK.out Y7x4 (HX0.out.below E4.out)).mono ?_
  rintro e Y7x5 ⟨z, rfl, hx, hy⟩
  have E5 := Lib.hid (E4.out.trans (hy.mono E4.out.size))
  have C5 := Lib.hid hy
  have Z1 := Lib.hid (RL.own hx)
  clear hx
  clear hy E4
  refine hK.out _ _ C5.out (fun _ => ?_)
  clear hK KK
  refine wpAnyH_mono (S' := (fun w' : World => Below Y7x5.heap.size Y7x5 w')) (fun w1 h => C5.out.trans (h.mono C5.out.size)) _ _ _ _ ?_
  clear C5
  try simp only [Act.put, List.setIfInBounds_toArray, List.set_cons_zero, List.set_cons_succ]
  refine wpAnyH_ready (rs := [31]) (by kernel_rfl) (by simp) ?_
  refine AllReadyH.cons (o := { dst := some 60, op := Op.call { callee := Callee.value (Operand.func 15), args := #[Operand.tmp 53, Operand.tmp 59], argTypes := #[34, 34] }, type := 4, pos := "law.go:60", after := #[{ on := 24, ground := Ground.data }, { on := 30, ground := Ground.data }, { on := 24, ground := Ground.chain }, { on := 21, ground := Ground.guard }], guard := some (21, true) }) rfl (fun KK hK => ?_) AllReadyH.nil
  go_simp
  refine (CT.out z _ Y7x5 Z1.out ((RX0.out.below E5.out).front m (by rw [← HLN.out]; exact hml))).mono ?_
  rintro e Y7x6 ⟨rfl, hy⟩
  have E6 := Lib.hid (E5.out.trans (hy.mono E5.out.size))
  have C6 := Lib.hid hy
  clear Z1
  clear hy E5
  refine hK.out _ _ C6.out (fun _ => ?_)
  clear hK KK
  refine wpAnyH_mono (S' := (fun w' : World => Below Y7x6.heap.size Y7x6 w')) (fun w1 h => C6.out.trans (h.mono C6.out.size)) _ _ _ _ ?_
  clear C6
  try simp only [Act.put, List.setIfInBounds_toArray, List.set_cons_zero, List.set_cons_succ]
  refine wpAnyH_take (i := 32) (oi := { dst := some 61, op := Op.pick (Operand.tmp 50) (Operand.tmp 60) (Operand.const (Value.bool false)), type := 4, pos := "law.go:60", after := #[{ on := 21, ground := Ground.data }, { on := 31, ground := Ground.data }], guard := none }) (v := ?_) rfl (by kernel_rfl) (by kernel_rfl) (by kernel_rfl) (fun _ _ _ h => h) (Or.inl ⟨by rfl, ?_⟩) (Below.refl _ _) ?_
  rotate_left
  · (intro w1 hS; go_simp; try with_reducible rfl)
  simp only [Act.put, List.setIfInBounds_toArray, List.set_cons_zero, List.set_cons_succ]
  refine wpAnyH_take (i := 33) (oi := { dst := some 62, op := Op.move (Operand.tmp 61), type := 4, pos := "law.go:60", after := #[{ on := 32, ground := Ground.data }, { on := 31, ground := Ground.chain }], guard := none }) (v := ?_) rfl (by kernel_rfl) (by kernel_rfl) (by kernel_rfl) (fun _ _ _ h => h) (Or.inl ⟨by rfl, ?_⟩) (Below.refl _ _) ?_
  rotate_left
  · (intro w1 hS; go_simp; try with_reducible rfl)
  simp only [Act.put, List.setIfInBounds_toArray, List.set_cons_zero, List.set_cons_succ]
  refine wpAnyH_ready (rs := [34]) (by kernel_rfl) (by simp) ?_
  refine AllReadyH.cons (o := { dst := some 63, op := Op.call { callee := Callee.value (Operand.func 8), args := #[], argTypes := #[] }, type := 4, pos := "law.go:60", after := #[{ on := 33, ground := Ground.chain }, { on := 33, ground := Ground.guard }], guard := some (33, true) }) rfl (fun KK hK => ?_) AllReadyH.nil
  go_simp
  refine (awake_any Y7x6).mono ?_
  rintro e Y7x7 ⟨rfl, hy⟩
  have E7 := Lib.hid (E6.out.trans (hy.mono E6.out.size))
  have C7 := Lib.hid hy
  clear hy E6
  refine hK.out _ _ C7.out (fun _ => ?_)
  clear hK KK
  refine wpAnyH_mono (S' := (fun w' : World => Below Y7x7.heap.size Y7x7 w')) (fun w1 h => C7.out.trans (h.mono C7.out.size)) _ _ _ _ ?_
  clear C7
  try simp only [Act.put, List.setIfInBounds_toArray, List.set_cons_zero, List.set_cons_succ]
  refine wpAnyH_take (i := 35) (oi := { dst := some 64, op := Op.pick (Operand.tmp 62) (Operand.tmp 63) (Operand.const (Value.bool false)), type := 4, pos := "law.go:60", after := #[{ on := 33, ground := Ground.data }, { on := 34, ground := Ground.data }], guard := none }) (v := ?_) rfl (by kernel_rfl) (by kernel_rfl) (by kernel_rfl) (fun _ _ _ h => h) (Or.inl ⟨by rfl, ?_⟩) (Below.refl _ _) ?_
  rotate_left
  · (intro w1 hS; go_simp; try with_reducible rfl)
  simp only [Act.put, List.setIfInBounds_toArray, List.set_cons_zero, List.set_cons_succ]
  refine wpAnyH_take (i := 36) (oi := { dst := some 4, op := Op.assign (Operand.tmp 64), type := 4, pos := "law.go:60", after := #[{ on := 35, ground := Ground.data }, { on := 34, ground := Ground.chain }, { on := 0, ground := Ground.phase }, { on := 1, ground := Ground.phase }, { on := 2, ground := Ground.phase }, { on := 3, ground := Ground.phase }, { on := 4, ground := Ground.phase }, { on := 5, ground := Ground.phase }, { on := 6, ground := Ground.phase }, { on := 7, ground := Ground.phase }, { on := 8, ground := Ground.phase }, { on := 9, ground := Ground.phase }, { on := 10, ground := Ground.phase }, { on := 11, ground := Ground.phase }, { on := 12, ground := Ground.phase }, { on := 13, ground := Ground.phase }, { on := 14, ground := Ground.phase }, { on := 15, ground := Ground.phase }, { on := 16, ground := Ground.phase }, { on := 17, ground := Ground.phase }, { on := 18, ground := Ground.phase }, { on := 19, ground := Ground.phase }, { on := 20, ground := Ground.phase }, { on := 21, ground := Ground.phase }, { on := 22, ground := Ground.phase }, { on := 23, ground := Ground.phase }, { on := 24, ground := Ground.phase }, { on := 25, ground := Ground.phase }, { on := 26, ground := Ground.phase }, { on := 27, ground := Ground.phase }, { on := 28, ground := Ground.phase }, { on := 29, ground := Ground.phase }, { on := 30, ground := Ground.phase }, { on := 31, ground := Ground.phase }, { on := 32, ground := Ground.phase }, { on := 33, ground := Ground.phase }, { on := 34, ground := Ground.phase }, { on := 35, ground := Ground.phase }], guard := none }) (v := ?_) rfl (by kernel_rfl) (by kernel_rfl) (by kernel_rfl) (fun _ _ _ h => h) (Or.inl ⟨by rfl, ?_⟩) (Below.refl _ _) ?_
  rotate_left
  · (intro w1 hS; go_simp; try with_reducible rfl)
  simp only [Act.put, List.setIfInBounds_toArray, List.set_cons_zero, List.set_cons_succ]
  refine wpAnyH_done (by kernel_rfl) ?_ _
  have hy := E7.out
  replace K := Lib.hid (K.out.trans (hy.mono K.out.size))
  replace HX := Lib.hid (HX.out.below hy HX.out.lt)
  replace HY := Lib.hid (HY.out.below hy HY.out.lt)
  clear hy E7
  go_wp2
  go_ret
  exact ⟨rfl, K.out⟩
end Go.Proofs.Ytopfbgoiehlhbaa

