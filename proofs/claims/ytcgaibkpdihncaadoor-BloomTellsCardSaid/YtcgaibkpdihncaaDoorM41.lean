/- Texts that the walks of this seat lean on, put together. -/
import Derived.StillTailTactics
import Derived.Deep.CutBlock
import Derived.Deep.DeepCutAuto
import Derived.LoopTactic
import Derived.Handy
import Derived.Test.YtcgaibkpdihncaaDoorTk
import Derived.Test.YtcgaibkpdihncaaDoorM31
import Derived.Test.YtcgaibkpdihncaaDoorM32
import Derived.Test.YtcgaibkpdihncaaDoorM38
import Derived.Test.YtcgaibkpdihncaaDoorM40
namespace Go.Proofs.YtcgaibkpdihncaaDoor
open Go.RowKit Go.Lib
set_option maxRecDepth 100000 in
set_option maxHeartbeats 4000000 in
theorem rhas_any (gR : Nat) (cs : Array Value) (hcs : cs.size = 48) (N : Nat) (v : Value) (l : List Nat) (b : Nat) (hl : l.length ≤ 1000000) (w : World) (hR : Blk w gR 40 (rft cs N v)) (hv : Rd w v (nus .i64 l)) :
    Calls Tryd.prog 29 #[.pointer (some ⟨gR, 0, none⟩), .int .i64 (b : Int)] w fun e w' => e = .returned (.bool (l.contains b)) ∧ w = w' := by
  obtain ⟨a, cap, rfl⟩ := rd_shapeN hv
  have h49 := (hR.cell 49).trans (rft_get cs hcs N _).2
  have HV := Lib.hid hv
  obtain ⟨n, hn⟩ : ∃ n, n = l.length := ⟨_, rfl⟩
  rw [← hn] at h49 HV hl
  have HNL := Lib.hid hn
  clear hR hcs hv hn
  go_enter Tryd.func29, Tryd.ntmps29
  go_wp2
  go_loopw [5] (fun i wr => ∃ j : Nat, j ≤ n ∧ i = .int .i64 (j : Int) ∧ Hid ((l.take j).contains b = false) ∧ Hid (w = wr)) (fun i _ => n - (RowKit.intOf i).toNat)
  case atStart => exact ⟨0, by omega, rfl, rfl, rfl⟩
  case round =>
    obtain ⟨j, hj, rfl, HI, HWr⟩ := hrel
    obtain rfl := HWr.out
    clear HWr
    by_cases hlt : j < n
    · have d8 : decide ((j : Int) < (n : Int)) = true := decide_eq_true (by omega)
      have d9 : decide (j < n) = true := decide_eq_true (by omega)
      have hb2 : 0 ≤ (j : Int) ∧ (j : Int) < (n : Int) := by omega
      obtain ⟨bb, off, e, hcc⟩ := HV.out.cells (by omega)
      have cj := hcc j hlt
      have HX := Lib.hid (in_next l j b (by have := HNL.out; omega) HI.out)
      generalize l.getD j 0 = x at *
      have HE : Hid (a = some ⟨bb, off, none⟩) := e
      rw [HE.out] at h49
      clear hcc HI e
      have w6 : IntKind.i64.wrap ((j : Int) + 1) = ((j + 1 : Nat) : Int) := by rw [IntKind.wrap_i64]; omega
      by_cases hx : x = b
      · have e1 : ((x : Int) == (b : Int)) = true := by rw [beq_iff_eq]; omega
        have e2 : (x == b) = true := by rw [beq_iff_eq]; exact hx
        have e3 : decide (x = b) = true := decide_eq_true hx
        rw [e3] at HX
        have HY := Lib.hid (in_yes l (j + 1) b HX.out)
        clear hx
        go_wp2
        go_ret
        exact ⟨by rw [HY.out]; rfl, rfl⟩
      · have e1 : ((x : Int) == (b : Int)) = false := by rw [beq_eq_false_iff_ne]; omega
        have e2 : (x == b) = false := by rw [beq_eq_false_iff_ne]; exact hx
        have e3 : decide (x = b) = false := decide_eq_false hx
        rw [e3] at HX
        clear hx
        go_wp2
        go_roundw
        case rel => exact ⟨j + 1, Nat.succ_le_of_lt hlt, by go_num, HX, by first | exact Lib.hid rfl | exact Lib.hid trivial⟩
        case measure => simp [RowKit.intOf]; omega
    · obtain rfl : j = n := by omega
      have d8 : decide (((j : Nat) : Int) < (j : Int)) = false := decide_eq_false (by omega)
      have d9 : decide (j < j) = false := decide_eq_false (by omega)
      have HA : Hid (l.contains b = false) := by show _ = _; have := HI.out; rwa [HNL.out, List.take_length] at this
      go_wp2
      go_ret
      exact ⟨by rw [HA.out]; rfl, rfl⟩
set_option maxRecDepth 100000 in
set_option maxHeartbeats 4000000 in
theorem rHas_yes (c : Cf) (hc : c.Fit) (hok : okC c = true) (k : Fl) (hk : k.Fit) (gR N M : Nat) (v : Value) (h0 : 0 < N) (hN : N ≤ 65536) (hkv : vK k = true) (w : World) (hR : Blk w gR 40 (rft c.cs N v)) (hv : Rd w v (nus .i64 (bitsL M N))) :
    Calls Tryd.prog 16 #[.pointer (some ⟨gR, 0, none⟩), .agg k.cs] w fun e w' => e = .returned (.bool (hasB N (btN c k) M)) ∧ Below w.heap.size w w' := by
  have K := Lib.hid (Below.refl w.heap.size w)
  have R := Lib.hid hR
  have V := Lib.hid hv
  have hcz := cf_size c hc
  obtain ⟨rb1, rb2⟩ := rft_get c.cs hcz N v
  have RB1 := Lib.hid rb1
  have RB2 := Lib.hid rb2
  have RP := Lib.hid (rft_part c.cs N v)
  have RI := Lib.hid (show (Tryd.prog.info? 29).map (·.size) = some c.cs.toList.length from (cf_ic c hc).trans (congrArg some Array.length_toList.symm))
  have hbl := bitsL_le M N
  have CH := Lib.hid (fun b W h1 h2 => rhas_any gR c.cs hcz N v (bitsL M N) b (by omega) W h1 h2)
  have CB := Lib.hid (fun W => rbits_yes c hc hok k hk hkv W)
  have CV := Lib.hid (fun W => rvalid_any k hk W)
  rw [hkv] at CV
  rw [btN_y hkv]
  obtain ⟨b1, b2⟩ := okC_hs hok
  obtain ⟨n, hn⟩ : ∃ n, n = c.hs.toNat := ⟨_, rfl⟩
  rw [← hn] at CB ⊢
  have hl := btL_len c k n
  have hlt : ∀ i, i < n → (btL c k n).getD i 0 < c.bl.toNat := btL_bl c k hok n
  obtain ⟨b3, b4⟩ := okC_bl hok
  have HLE := Lib.hid (show ∀ i, i < n → (btL c k n).getD i 0 ≤ 65536 from fun i hi => by have := hlt i hi; omega)
  have hnm : n ≤ 4 := by omega
  clear hlt
  generalize btL c k n = bs at *
  obtain ⟨a0, a1, a18, a35, a36⟩ := fl_get k hk
  have G0 := Lib.hid a0
  have G1 := Lib.hid a1
  have G18 := Lib.hid a18
  have G35 := Lib.hid a35
  have G36 := Lib.hid a36
  have KP1 := Lib.hid (fl_src k)
  have KP2 := Lib.hid (fl_dst k hk)
  have IS := Lib.hid (fl_is k hk)
  have ID := Lib.hid (fl_id k hk)
  have IK := Lib.hid (fl_ik k hk)
  clear a0 a1 a18 a35 a36
  generalize k.cs = kc at *
  generalize cellsA k.sv k.S = S at *
  generalize cellsA k.dv k.D = D at *
  generalize k.p = p at *
  generalize k.sv = sv at *
  generalize k.dv = dv at *
  generalize k.sp = sp at *
  generalize k.dp = dp at *
  generalize rft c.cs N v = rc at *
  generalize c.cs = cc at *
  have HNL := Lib.hid hl
  have qR := hR.lt
  clear hk hkv hc hok hR hv hn hl b1 b2 b3 b4 rb1 rb2 hcz hbl
  have hNz : ((N : Int) == 0) = false := by rw [beq_eq_false_iff_ne]; omega
  have hNz2 : (N : Int) ≠ 0 := by omega
  have hNz3 : ¬ N = 0 := by omega
  go_enter Tryd.func16, Tryd.ntmps16
  have hal := (Below.refl w.heap.size w).alloc (Nat.le_refl _) (.cells kc 43)
  replace K := Lib.hid (K.out.trans (hal.mono K.out.size))
  replace R := Lib.hid (R.out.below hal R.out.lt)
  replace V := Lib.hid (V.out.below hal)
  have NB := Lib.hid (Blk.new w 43 kc)
  clear hal
  go_wp2_with fail
  have hzV1 : Hid ((w.alloc (.cells kc 43)).heap.size = w.heap.size + 1) := by show _ = _; simp only [World.size_alloc]
  generalize (w.alloc (.cells kc 43)) = V1 at *
  refine wp_region_held (S := (fun w' : World => Below (V1.heap.size) V1 w')) (by kernel_rfl) ?_
  change wpAnyH _ _ _ _ _ _ _ _ V1.drew
  have hy : Below V1.heap.size V1 V1.drew := (Below.refl _ _).drew
  have hE0 : Below (V1.heap.size) V1 V1.drew := (Below.refl _ _).drew
  clear hy
  generalize V1.drew = Y1x0 at hE0  ⊢
  have E0 := Lib.hid hE0
  clear hE0
  refine tkA 0 (?_) ?_ E0.out ?_
  rotate_left
  · (intro w1 hS; go_simp; try with_reducible rfl)
  simp only [Act.put, tS1, tS2, tS3]
  refine tkA 1 (?_) ?_ E0.out ?_
  rotate_left
  · (intro w1 hS; go_simp; try with_reducible rfl)
  simp only [Act.put, tS1, tS2, tS3]
  refine tkA 2 (?_) ?_ E0.out ?_
  rotate_left
  · (intro w1 hS; go_simp; try with_reducible rfl)
  simp only [Act.put, tS1, tS2, tS3]
  refine tkA 3 (.agg cc) ?_ E0.out ?_
  · (intro w1 hS; have hW := hS; exact exec_load 29 (.tmp 9) rfl _ rfl _ (by have h := run_part_load (P := Tryd.prog) 29 0 cc.toList _ (R.out.below hW R.out.lt) RP.out Tryd.underlying29 rfl RI.out; rwa [Array.toArray_toList] at h))
  simp only [Act.put, tS1, tS2, tS3]
  refine tkA 4 (.agg kc) ?_ E0.out ?_
  · (intro w1 hS; have hW := hS; exact exec_load 43 (.tmp 3) rfl _ rfl _ (run_blk_load (P := Tryd.prog) 43 (w.heap.size) _ (NB.out.below hW NB.out.lt) Tryd.underlying43 rfl IK.out))
  simp only [Act.put, tS1, tS2, tS3]
  refine tkO 5 (fun KK hK => ?_)
  go_simp
  refine (CB.out Y1x0).mono ?_
  rintro e Y1x1 ⟨⟨x, rfl, hx⟩, hy⟩
  have E1 := Lib.hid (E0.out.trans (hy.mono E0.out.size))
  have C1 := Lib.hid E1.out
  have X := Lib.hid hx
  clear hx
  clear hy E0
  refine hK.out _ _ C1.out (fun _ => ?_)
  clear hK KK
  refine wpAnyH_mono (S' := (fun w' : World => Below Y1x1.heap.size Y1x1 w')) (fun w1 h => C1.out.trans (h.mono C1.out.size)) _ _ _ _ ?_
  clear C1
  try simp only [Act.put, tS1, tS2, tS3]
  refine tkA 6 (?_) ?_ (Below.refl _ _) ?_
  rotate_left
  · (intro w1 hS; go_simp; try with_reducible rfl)
  simp only [Act.put, tS1, tS2, tS3]
  refine wpAnyH_done (by kernel_rfl) ?_ _
  have hy := E1.out
  replace K := Lib.hid (K.out.trans (hy.mono K.out.size))
  replace R := Lib.hid (R.out.below hy R.out.lt)
  replace V := Lib.hid (V.out.below hy)
  replace NB := Lib.hid (NB.out.below hy NB.out.lt)
  clear hy E1
  obtain ⟨xa, xc, hxe⟩ := rd_shapeN X.out
  rw [HNL.out] at hxe
  subst hxe
  go_wp2
  go_loopw [6] (fun i wr => ∃ j : Nat, j ≤ n ∧ i = .int .i64 (j : Int) ∧ Hid (hasB N (bs.take j) M = true) ∧ Hid (Rd wr (.slice xa n xc) (nus .i64 bs)) ∧ Hid (Blk wr gR 40 rc) ∧ Hid (Rd wr v (nus .i64 (bitsL M N))) ∧ Hid (Blk wr w.heap.size 43 kc) ∧ Hid (Below w.heap.size w wr)) (fun i _ => n - (RowKit.intOf i).toNat)
  case atStart => exact ⟨0, by omega, rfl, rfl, X, R, V, NB, K⟩
  case round =>
    obtain ⟨j, hj, rfl, HM, Xr, Rr, Vr, Nr, Kr⟩ := hrel
    clear R V X K NB
    by_cases hlt : j < n
    · have d8 : decide ((j : Int) < (n : Int)) = true := decide_eq_true (by omega)
      have d9 : decide (j < n) = true := decide_eq_true (by omega)
      have hb2 : 0 ≤ (j : Int) ∧ (j : Int) < (n : Int) := by omega
      have HN := Lib.hid (has_next N bs j M (by have := HNL.out; omega) HM.out)
      have hx := HLE.out j hlt
      obtain ⟨bb, off, e, _⟩ := Xr.out.cells (by omega)
      subst e
      have HCE := Lib.hid (fun W (h : Rd W (.slice (some ⟨bb, off, none⟩) n xc) (nus .i64 bs)) => by obtain ⟨b', o', e', hc⟩ := h.cells (by omega); cases e'; exact hc j hlt)
      generalize bs.getD j 0 = x at *
      have hpN : x % N < N := Nat.mod_lt _ h0
      have HIB := Lib.hid (in_bits M N (x % N) hpN)
      have tm : (x : Int).tmod (N : Int) = ((x % N : Nat) : Int) := by rw [Int.tmod_eq_emod_of_nonneg (by omega)]; exact (Int.natCast_emod x N).symm
      have w6 : IntKind.i64.wrap ((j : Int) + 1) = ((j + 1 : Nat) : Int) := by rw [IntKind.wrap_i64]; omega
      have CHp := Lib.hid (fun W h1 h2 => CH.out (x % N) W h1 h2)
      generalize x % N = p at *
      rw [HIB.out] at CHp
      generalize M.testBit p = bt at *
      go_wp2_with fail
      refine wp_region_held (S := (fun w' : World => Below (wr.heap.size) wr w')) (by kernel_rfl) ?_
      change wpAnyH _ _ _ _ _ _ _ _ wr.drew
      have hy : Below wr.heap.size wr wr.drew := (Below.refl _ _).drew
      have hE0 : Below (wr.heap.size) wr wr.drew := (Below.refl _ _).drew
      clear hy
      generalize wr.drew = Y5x0 at hE0  ⊢
      have E0 := Lib.hid hE0
      clear hE0
      refine tkA 0 (?_) ?_ E0.out ?_
      rotate_left
      · (intro w1 hS; go_simp; try with_reducible rfl)
      simp only [Act.put, tS1, tS2, tS3]
      refine tkA 1 (?_) ?_ E0.out ?_
      rotate_left
      · (intro w1 hS; go_simp; try with_reducible rfl)
      simp only [Act.put, tS1, tS2, tS3]
      refine tkA 2 (?_) ?_ E0.out ?_
      rotate_left
      · (intro w1 hS; go_simp; try with_reducible rfl)
      simp only [Act.put, tS1, tS2, tS3]
      refine tkA 3 (?_) ?_ E0.out ?_
      rotate_left
      · (intro w1 hS; go_simp; try with_reducible rfl)
      simp only [Act.put, tS1, tS2, tS3]
      refine tkA 4 (?_) ?_ E0.out ?_
      rotate_left
      · (intro w1 hS; have hW := hS; have q := HCE.out w1 (Xr.out.below hW); clear hW hS; go_simp; try with_reducible rfl)
      simp only [Act.put, tS1, tS2, tS3]
      refine tkA 5 (?_) ?_ E0.out ?_
      rotate_left
      · (intro w1 hS; go_simp; try with_reducible rfl)
      simp only [Act.put, tS1, tS2, tS3]
      refine tkA 6 (?_) ?_ E0.out ?_
      rotate_left
      · (intro w1 hS; go_simp; try with_reducible rfl)
      simp only [Act.put, tS1, tS2, tS3]
      refine tkA 7 (?_) ?_ E0.out ?_
      rotate_left
      · (intro w1 hS; go_simp; try with_reducible rfl)
      simp only [Act.put, tS1, tS2, tS3]
      refine tkA 8 (?_) ?_ E0.out ?_
      rotate_left
      · (intro w1 hS; have hW := hS; have q := ((Rr.out.below hW Rr.out.lt).cell 48).trans RB1.out; clear hW hS; go_simp; try with_reducible rfl)
      simp only [Act.put, tS1, tS2, tS3]
      refine tkA 9 (?_) ?_ E0.out ?_
      rotate_left
      · (intro w1 hS; go_simp; try with_reducible rfl)
      simp only [Act.put, tS1, tS2, tS3]
      refine tkO 10 (fun KK hK => ?_)
      go_simp
      refine (same_below (CHp.out Y5x0 (Rr.out.below E0.out Rr.out.lt) (Vr.out.below E0.out))).mono ?_
      rintro e Y5x1 ⟨rfl, hy⟩
      have E1 := Lib.hid (E0.out.trans (hy.mono E0.out.size))
      have C1 := Lib.hid E1.out
      clear hy E0
      refine hK.out _ _ C1.out (fun _ => ?_)
      clear hK KK
      refine wpAnyH_mono (S' := (fun w' : World => Below Y5x1.heap.size Y5x1 w')) (fun w1 h => C1.out.trans (h.mono C1.out.size)) _ _ _ _ ?_
      clear C1
      try simp only [Act.put, tS1, tS2, tS3]
      refine tkA 11 (?_) ?_ (Below.refl _ _) ?_
      rotate_left
      · (intro w1 hS; go_simp; try with_reducible rfl)
      simp only [Act.put, tS1, tS2, tS3]
      refine wpAnyH_done (by kernel_rfl) ?_ _
      have hy := E1.out
      replace Xr := Lib.hid (Xr.out.below hy)
      replace Rr := Lib.hid (Rr.out.below hy Rr.out.lt)
      replace Vr := Lib.hid (Vr.out.below hy)
      replace Nr := Lib.hid (Nr.out.below hy Nr.out.lt)
      replace Kr := Lib.hid (Kr.out.trans (hy.mono Kr.out.size))
      clear hy E1
      cases bt with
      | false =>
        have HS := Lib.hid (has_stop N bs (j + 1) M HN.out)
        go_wp2
        go_ret
        exact ⟨by rw [HS.out]; rfl, Kr.out⟩
      | true =>
        go_wp2
        go_roundw
        case rel => exact ⟨j + 1, Nat.succ_le_of_lt hlt, by go_num, HN, Xr, Rr, Vr, Nr, Kr⟩
        case measure => simp [RowKit.intOf]; omega
    · obtain rfl : j = n := by omega
      have d8 : decide (((j : Nat) : Int) < (j : Int)) = false := decide_eq_false (by omega)
      have d9 : decide (j < j) = false := decide_eq_false (by omega)
      have HA : Hid (hasB N bs M = true) := by show _ = _; have := HM.out; rwa [← HNL.out, List.take_length] at this
      have L2 : (loadVar 43 ⟨w.heap.size, 0, none⟩).run Tryd.prog wr = .ok (.agg kc) wr := run_blk_load (P := Tryd.prog) 43 (w.heap.size) _ Nr.out Tryd.underlying43 rfl IK.out
      replace L2 := Lib.hid L2
      go_wp2_with (((with_reducible refine wpList_load_want (op := ⟨some 31, .load 43 (.tmp 3), _, _, _, _⟩) ?wg2 43 (.tmp 3) ?wo2 ⟨w.heap.size, 0, none⟩ ?wx2 (.agg kc) L2.out ?_); (case wg2 => rfl); (case wo2 => rfl); (case wx2 => rfl)))
      clear L2
      refine (CV.out wr).mono ?_
      rintro e V32 ⟨rfl, hy⟩
      replace Nr := Lib.hid (Nr.out.below hy Nr.out.lt)
      replace Kr := Lib.hid (Kr.out.trans (hy.mono Kr.out.size))
      clear hy
      go_wp2
      go_ret
      exact ⟨by rw [HA.out]; rfl, Kr.out⟩
end Go.Proofs.YtcgaibkpdihncaaDoor
