/- Texts that the walks of this seat lean on, put together. -/
import Derived.Deep.CutBlock
import Derived.Deep.DeepCutAuto
import Derived.LoopTactic
import Derived.Handy
import Derived.Test.YtblkpnjmmdbgnaaTk
import Derived.Test.YtblkpnjmmdbgnaaM36
import Derived.Test.YtblkpnjmmdbgnaaM40
import Derived.Test.YtblkpnjmmdbgnaaM41
namespace Go.Proofs.Ytblkpnjmmdbgnaa
open Go.RowKit Go.Lib
set_option maxRecDepth 100000 in
set_option maxHeartbeats 4000000 in
theorem alone_4 (va : Value) (zs : List Int) (hl : zs.length ≤ 30) (n : Int) (v6 : Bool) (which : Int) (hw : which % 5 = 4) (w : World) (hv : Rd w va (ivs zs)) :
    Calls Try.prog 6 #[va, .int .i64 n, .bool v6, .int .i64 which] w fun e w' => e = .returned (.bool true) ∧ Below w.heap.size w w' := by
  have K := Lib.hid (Below.refl w.heap.size w)
  obtain ⟨ZC, hZC⟩ : ∃ Z, Z = cf0.cs := ⟨_, rfl⟩
  have z27 : ∀ W, (zeroValue 27).run Try.prog W = .ok (.agg ZC) W := by rw [hZC]; exact zero27
  have hZS : ZC.size = 48 := by rw [hZC]; exact cf_size _ cf0_fit
  obtain ⟨ZK, hZK⟩ : ∃ Z, Z = k0.cs := ⟨_, rfl⟩
  have z31 : ∀ W, (zeroValue 31).run Try.prog W = .ok (.agg ZK) W := by rw [hZK]; exact zero31
  have hZKS : ZK.size = 37 := by rw [hZK]; exact Fl.cs_size _ k0_fit
  have Z31 := Lib.hid z31
  clear hZC hZK z31
  have CF := Lib.hid (fun W h => config_any va zs W h)
  have CA := Lib.hid (fun W => awake_any W)
  have CR := Lib.hid (fun W => round_any which 5 W (by decide) (by decide))
  rw [hw] at CR
  have hc0 := cfg_fit zs
  have f0 := al0_fit zs
  have f1 := al1_fit zs
  have HK := al_kin zs 4 (by decide)
  have Q0 := Lib.hid (show (cfg zs).cs[0]? = some _ from (cf_get _ hc0).1)
  have Q2 := Lib.hid (show (cfg zs).cs[2]? = some _ from (cf_get _ hc0).2.2.1)
  have P5 := Lib.hid (show (al1 zs).cs[5]? = some _ from (cf_get _ f1).2.2.2.2.2.1)
  have P6 := Lib.hid (show (al1 zs).cs[6]? = some _ from (cf_get _ f1).2.2.2.2.2.2.1)
  have P11 := Lib.hid (show (al1 zs).cs[11]? = some _ from (cf_get _ f1).2.2.2.2.2.2.2.2.2.2.2.1)
  have S12 := Lib.hid (show ((cfg zs).cs.setIfInBounds 0 (.int .i64 2)).setIfInBounds 2 (.int .i64 8) = (al1 zs).cs from by rw [set_st _ hc0]; exact set_dg _ f0 8)
  have S2 := Lib.hid (show (((al1 zs).cs.setIfInBounds 5 (.int .i64 9)).setIfInBounds 6 (.int .i64 9)).setIfInBounds 11 (.int .i64 9) = (al2 zs 4).cs from by rw [set_sl _ f1, set_vs _ (fit_sl _ f1 9)]; exact set_fa _ (fit_vs _ (fit_sl _ f1 9) 9) 9)
  have RY := Lib.hid (show (cfg zs).cs.size = ZC.size from by rw [cf_size _ hc0, hZS])
  have RZ := Lib.hid (cf_ic _ hc0)
  have RA := Lib.hid (cf_all (cfg zs))
  have TY := Lib.hid (show (al1 zs).cs.size = ZC.size from by rw [cf_size _ f1, hZS])
  have TZ := Lib.hid (cf_ic _ f1)
  have TA := Lib.hid (cf_all (al1 zs))
  have IC2 := Lib.hid (cf_ic _ HK.d1)
  generalize al2 zs 4 = d at *
  generalize al1 zs = c at *
  have CN := Lib.hid (fun W => new_yes c HK.c1 HK.c2 W)
  have CM := Lib.hid (fun W => new_yes d HK.d1 HK.d2 W)
  have CK := Lib.hid (fun W => flow_any n v6 false W)
  obtain ⟨k, hk0⟩ : ∃ k, k = kflow n v6 false := ⟨_, rfl⟩
  have hk : k.Fit := by rw [hk0]; exact kflow_fit _ _ _
  have hvk : vK k = true := by rw [hk0]; exact kflow_vK _ _ _
  rw [← hk0] at CK
  clear hk0
  have CP := Lib.hid (fun s (hs : s < 2) g W h => place_in c HK.c1 HK.c2 k hk hvk s (by rw [HK.cs]; omega) g W h)
  have CQ := Lib.hid (fun s (hs : s < 2) g W h => place_in d HK.d1 HK.d2 k hk hvk s (by have := HK.ds; omega) g W h)
  have hpq : ∀ s : Nat, plN d k s = plN c k s := fun s => (plN_same c d HK.sd HK.sz k s).symm
  simp only [hpq] at CQ
  have EQ := Lib.hid (fun s (hs : s < 2) W => eq_place s (plN c k s) (by omega) (plN_lt c k s HK.c2) W)
  obtain ⟨PL, hPL⟩ : ∃ PL : Nat → Array Value, PL = fun s => #[.int .i64 (s : Int), .int .i64 ((plN c k s : Nat) : Int)] := ⟨_, rfl⟩
  have hPL2 : ∀ s : Nat, (#[.int .i64 (s : Int), .int .i64 ((plN c k s : Nat) : Int)] : Array Value) = PL s := fun s => by rw [hPL]
  simp only [hPL2] at CP CQ EQ
  have PY := Lib.hid (fun s => show (PL s).size = (#[.int .i64 0, .int .i64 0] : Array Value).size from by rw [hPL]; exact two_size _ _ _ _)
  have PZ := Lib.hid (fun s => show (Try.prog.info? 41).map (·.size) = some (PL s).size from by rw [hPL]; exact pc_info _ _)
  have PA := Lib.hid (fun s => show (PL s).all (·.oneCell') = true from by rw [hPL]; exact pc_one _ _)
  have CD1 := Lib.hid (fun g W h => digest_yes c HK.c1 HK.c2 k hk hvk g W h)
  have CD2 := Lib.hid (fun g W h => digest_yes d HK.d1 HK.d2 k hk hvk g W h)
  have hd2 := dgN_lt d k HK.d2
  have hd1 := dgN_low c d HK.sd HK.cd HK.dd k
  have a1 := u16_and_nat (dgN d k) 255 hd2 (by decide)
  rw [nat_mask8, ← hd1] at a1
  have CB1 := Lib.hid (fun g W h => bits_yes c HK.c1 HK.c2 k hk hvk g W h)
  have CB2 := Lib.hid (fun g W h => bits_yes d HK.d1 HK.d2 k hk hvk g W h)
  rw [← btL_same c d HK.sd HK.bl k d.hs.toNat, ← HK.hs] at CB2
  have hbl : (btL c k c.hs.toNat).length ≤ 1000000 := by rw [btL_len]; have := okC_hs HK.c2; omega
  have CI := Lib.hid (fun x y W h1 h2 => ints_any x y (btL c k c.hs.toNat) W h1 h2 hbl)
  have CS1 := Lib.hid (fun g W h => slot_yes c HK.c1 k hk hvk g 17 (by decide) (by decide) W h)
  have CS2 := Lib.hid (fun g W h => slot_yes d HK.d1 k hk hvk g 17 (by decide) (by decide) W h)
  rw [← slN_same c d HK.sd k 17] at CS2
  have KY := Lib.hid (show k.cs.size = ZK.size from by rw [Fl.cs_size _ hk, hZKS])
  have KZ := Lib.hid (fl_ik k hk)
  have KA := Lib.hid (Fl.cs_all k)
  generalize btL c k c.hs.toNat = BL at *
  generalize dgN c k = d1 at *
  generalize dgN d k = d2 at *
  generalize slN c k 17 = s1 at *
  generalize famC c = fc at *
  generalize famC d = fd at *
  generalize c.cs = cc at *
  generalize d.cs = cd at *
  generalize k.cs = kc at *
  generalize (cfg zs).cs = c0 at *
  have e1 : ((d1 : Int) == (d1 : Int)) = true := by simp
  have e2 : ((s1 : Int) == (s1 : Int)) = true := by simp
  have A1F := Lib.hid (show bits .and .u16 (d2 : Int) 255 = (d1 : Int) from a1)
  have HV := Lib.hid hv
  obtain ⟨a, cap, rfl, -, -⟩ := rdI_shape hv
  obtain ⟨m, hm⟩ : ∃ m, m = zs.length := ⟨_, rfl⟩
  rw [← hm] at HV CF hl ⊢
  have g1 : decide ((m : Int) > 30) = false := decide_eq_false (by omega)
  have g2 : ¬ m > 30 := by omega
  have g3 : ¬ 30 < m := by omega
  clear hv hw hc0 f0 f1 HK hZS hZKS hm hk hvk hpq hPL hPL2 hd2 hd1 a1 hbl
  go_enter Try.func6, Try.ntmps6
  go_wp2_with fail
  refine (CF.out w (HV.out.below K.out)).mono ?_
  rintro e V1 ⟨rfl, hy⟩
  replace K := Lib.hid (K.out.trans (hy.mono K.out.size))
  have qC := K.out.size
  clear hy
  go_wp2_with (((with_reducible refine wpList_blk_store (op := ⟨none, .store 27 (.tmp 9) (.tmp 26), _, _, _, _⟩) ?sg49 27 (.tmp 9) (.tmp 26) ?so49 (V1.heap.size) c0 ?sx49 ?sy49 (Blk.new V1 27 ZC) RY.out RZ.out RA.out ?_); (case sg49 => rfl); (case so49 => rfl); (case sx49 => rfl); (case sy49 => rfl)))
  intro V2 hA hF hB
  have hy := ((Below.refl V1.heap.size V1).alloc (Nat.le_refl _) (.cells ZC 27)).trans (hB _ (Nat.le_refl _))
  replace K := Lib.hid (K.out.trans (hy.mono K.out.size))
  have C := Lib.hid hA
  clear hA hF hB hy
  obtain ⟨gC, hg⟩ : ∃ g, g = V1.heap.size := ⟨_, rfl⟩
  rw [← hg] at C qC ⊢
  clear hg
  have c0 := (C.out.cell 0).trans Q0.out
  have f0 := C.out.frozen 0
  have c2 := (C.out.cell 2).trans Q2.out
  have f2 := C.out.frozen 2
  go_upto_region 5 with fail
  have hA := ((C.out.set_ 0 (.int .i64 2)).set_ 2 (.int .i64 8))
  rw [S12.out] at hA
  replace K := Lib.hid (((K.out.setCell (p := ⟨gC, 0, none⟩) (by show _ ≤ gC; omega) (.int .i64 2)).setCell (p := ⟨gC, 2, none⟩) (by show _ ≤ gC; omega) (.int .i64 8)))
  replace C := Lib.hid hA
  clear hA c0 f0 c2 f2
  generalize ((V2.setCell ⟨gC, 0, none⟩ (.int .i64 2)).setCell ⟨gC, 2, none⟩ (.int .i64 8)) = V3 at *
  have qD := C.out.lt
  have L50 : (loadVar 27 ⟨gC, 0, none⟩).run Try.prog V3 = .ok (.agg cc) V3 := run_blk_load (P := Try.prog) 27 (gC) _ C.out Try.underlying27 rfl TZ.out
  replace L50 := Lib.hid L50
  go_wp2_with (first | ((with_reducible refine wpList_load_want (op := ⟨some 29, .load 27 (.tmp 9), _, _, _, _⟩) ?wg50 27 (.tmp 9) ?wo50 ⟨gC, 0, none⟩ ?wx50 (.agg cc) L50.out ?_); (case wg50 => rfl); (case wo50 => rfl); (case wx50 => rfl)) | ((with_reducible refine wpList_blk_store (op := ⟨none, .store 27 (.tmp 10) (.tmp 29), _, _, _, _⟩) ?sg51 27 (.tmp 10) (.tmp 29) ?so51 (V3.heap.size) cc ?sx51 ?sy51 (Blk.new V3 27 ZC) TY.out TZ.out TA.out ?_); (case sg51 => rfl); (case so51 => rfl); (case sx51 => rfl); (case sy51 => rfl)))
  clear L50
  have qCD : gC < V3.heap.size := C.out.lt
  intro V4 hA hF hB
  have hy := ((Below.refl V3.heap.size V3).alloc (Nat.le_refl _) (.cells ZC 27)).trans (hB _ (Nat.le_refl _))
  replace K := Lib.hid (K.out.trans (hy.mono K.out.size))
  replace C := Lib.hid (C.out.below hy C.out.lt)
  have D := Lib.hid hA
  clear hA hF hB hy
  obtain ⟨gD, hg⟩ : ∃ g, g = V3.heap.size := ⟨_, rfl⟩
  rw [← hg] at D qD ⊢
  clear z27
  clear hg
  go_wp2_with fail
  refine (same_below (CR.out V4)).mono ?_
  rintro e V5 ⟨rfl, hy⟩
  replace K := Lib.hid (K.out.trans (hy.mono K.out.size))
  replace C := Lib.hid (C.out.below hy C.out.lt)
  replace D := Lib.hid (D.out.below hy D.out.lt)
  clear hy
  have c5 := (D.out.cell 5).trans P5.out
  have f5 := D.out.frozen 5
  have c6 := (D.out.cell 6).trans P6.out
  have f6 := D.out.frozen 6
  have c11 := (D.out.cell 11).trans P11.out
  have f11 := D.out.frozen 11
  go_upto_region 17 with fail
  have hA := (((D.out.set_ 5 (.int .i64 9)).set_ 6 (.int .i64 9)).set_ 11 (.int .i64 9))
  rw [S2.out] at hA
  replace K := Lib.hid ((((K.out.setCell (p := ⟨gD, 5, none⟩) (by show _ ≤ gD; omega) (.int .i64 9)).setCell (p := ⟨gD, 6, none⟩) (by show _ ≤ gD; omega) (.int .i64 9)).setCell (p := ⟨gD, 11, none⟩) (by show _ ≤ gD; omega) (.int .i64 9)))
  replace C := Lib.hid ((((C.out.far (p := ⟨gD, 5, none⟩) (by show _ ≠ gD; omega) (.int .i64 9)).far (p := ⟨gD, 6, none⟩) (by show _ ≠ gD; omega) (.int .i64 9)).far (p := ⟨gD, 11, none⟩) (by show _ ≠ gD; omega) (.int .i64 9)))
  replace D := Lib.hid hA
  clear hA c5 f5 c6 f6 c11 f11
  generalize (((V5.setCell ⟨gD, 5, none⟩ (.int .i64 9)).setCell ⟨gD, 6, none⟩ (.int .i64 9)).setCell ⟨gD, 11, none⟩ (.int .i64 9)) = V6 at *
  have L52 : (loadVar 27 ⟨gC, 0, none⟩).run Try.prog V6 = .ok (.agg cc) V6 := run_blk_load (P := Try.prog) 27 (gC) _ C.out Try.underlying27 rfl TZ.out
  replace L52 := Lib.hid L52
  go_wp2_with (((with_reducible refine wpList_load_want (op := ⟨some 55, .load 27 (.tmp 9), _, _, _, _⟩) ?wg52 27 (.tmp 9) ?wo52 ⟨gC, 0, none⟩ ?wx52 (.agg cc) L52.out ?_); (case wg52 => rfl); (case wo52 => rfl); (case wx52 => rfl)))
  clear L52
  refine (CN.out V6).mono ?_
  rintro e V7 ⟨⟨gF, rfl, qF, hF⟩, hy⟩
  replace K := Lib.hid (K.out.trans (hy.mono K.out.size))
  replace C := Lib.hid (C.out.below hy C.out.lt)
  replace D := Lib.hid (D.out.below hy D.out.lt)
  have F := Lib.hid (hF)
  clear hF
  clear hy
  have L53 : (loadVar 27 ⟨gD, 0, none⟩).run Try.prog V7 = .ok (.agg cd) V7 := run_blk_load (P := Try.prog) 27 (gD) _ D.out Try.underlying27 rfl IC2.out
  replace L53 := Lib.hid L53
  go_wp2_with (((with_reducible refine wpList_load_want (op := ⟨some 60, .load 27 (.tmp 10), _, _, _, _⟩) ?wg53 27 (.tmp 10) ?wo53 ⟨gD, 0, none⟩ ?wx53 (.agg cd) L53.out ?_); (case wg53 => rfl); (case wo53 => rfl); (case wx53 => rfl)))
  clear L53
  refine (CM.out V7).mono ?_
  rintro e V8 ⟨⟨gG, rfl, qG, hF⟩, hy⟩
  replace K := Lib.hid (K.out.trans (hy.mono K.out.size))
  replace C := Lib.hid (C.out.below hy C.out.lt)
  replace D := Lib.hid (D.out.below hy D.out.lt)
  replace F := Lib.hid (F.out.below hy F.out.lt)
  have G := Lib.hid (hF)
  clear hF
  clear hy
  have z31 := Z31.out
  go_wp2_with fail
  refine (CK.out V8).mono ?_
  rintro e V9 ⟨rfl, hy⟩
  replace K := Lib.hid (K.out.trans (hy.mono K.out.size))
  replace C := Lib.hid (C.out.below hy C.out.lt)
  replace D := Lib.hid (D.out.below hy D.out.lt)
  replace F := Lib.hid (F.out.below hy F.out.lt)
  replace G := Lib.hid (G.out.below hy G.out.lt)
  clear hy
  go_wp2_with (((with_reducible refine wpList_blk_store (op := ⟨none, .store 31 (.tmp 15) (.tmp 80), _, _, _, _⟩) ?sg54 31 (.tmp 15) (.tmp 80) ?so54 (V9.heap.size) kc ?sx54 ?sy54 (Blk.new V9 31 ZK) KY.out KZ.out KA.out ?_); (case sg54 => rfl); (case so54 => rfl); (case sx54 => rfl); (case sy54 => rfl)))
  have qCN : gC < V9.heap.size := C.out.lt
  have qDN : gD < V9.heap.size := D.out.lt
  intro V10 hA hF hB
  have hy := ((Below.refl V9.heap.size V9).alloc (Nat.le_refl _) (.cells ZK 31)).trans (hB _ (Nat.le_refl _))
  replace K := Lib.hid (K.out.trans (hy.mono K.out.size))
  replace C := Lib.hid (C.out.below hy C.out.lt)
  replace D := Lib.hid (D.out.below hy D.out.lt)
  replace F := Lib.hid (F.out.below hy F.out.lt)
  replace G := Lib.hid (G.out.below hy G.out.lt)
  have N := Lib.hid hA
  clear hA hF hB hy
  clear z31 C D
  obtain ⟨gN, hg⟩ : ∃ g, g = V9.heap.size := ⟨_, rfl⟩
  rw [← hg] at N ⊢
  clear qF qG
  clear hg
  go_wp2
  go_loopw [16] (fun i wr => ∃ j : Nat, j ≤ 2 ∧ i = .int .i64 (j : Int) ∧ Hid (Blk wr gF 73 fc) ∧ Hid (Blk wr gG 73 fd) ∧ Hid (Blk wr gN 31 kc) ∧ Hid (Below w.heap.size w wr)) (fun i _ => 2 - (RowKit.intOf i).toNat)
  case atStart => exact ⟨0, by omega, rfl, F, G, N, K⟩
  case round =>
    obtain ⟨j, hj, rfl, Fr, Gr, Nr, Kr⟩ := hrel
    clear F G N K
    by_cases hlt : j < 2
    · have d8 : decide ((j : Int) < 2) = true := decide_eq_true (by omega)
      have d9 : decide (j < 2) = true := decide_eq_true (by omega)
      have CPj := Lib.hid (CP.out j hlt)
      have CQj := Lib.hid (CQ.out j hlt)
      have EQj := Lib.hid (EQ.out j hlt)
      have PYj := Lib.hid (PY.out j)
      have PZj := Lib.hid (PZ.out j)
      have PAj := Lib.hid (PA.out j)
      generalize PL j = P at *
      clear CP CQ EQ PY PZ PA
      have L55 : (loadVar 31 ⟨gN, 0, none⟩).run Try.prog wr = .ok (.agg kc) wr := run_blk_load (P := Try.prog) 31 (gN) _ Nr.out Try.underlying31 rfl KZ.out
      replace L55 := Lib.hid L55
      go_wp2_with (((with_reducible refine wpList_load_want (op := ⟨some 87, .load 31 (.tmp 15), _, _, _, _⟩) ?wg55 31 (.tmp 15) ?wo55 ⟨gN, 0, none⟩ ?wx55 (.agg kc) L55.out ?_); (case wg55 => rfl); (case wo55 => rfl); (case wx55 => rfl)))
      clear L55
      refine (CPj.out gF wr Fr.out).mono ?_
      rintro e V12 ⟨rfl, hy⟩
      replace Fr := Lib.hid (Fr.out.below hy Fr.out.lt)
      replace Gr := Lib.hid (Gr.out.below hy Gr.out.lt)
      replace Nr := Lib.hid (Nr.out.below hy Nr.out.lt)
      replace Kr := Lib.hid (Kr.out.trans (hy.mono Kr.out.size))
      clear hy
      go_wp2_with (((with_reducible refine wpList_blk_store (op := ⟨none, .store 41 (.tmp 17) (.tmp 90), _, _, _, _⟩) ?sg56 41 (.tmp 17) (.tmp 90) ?so56 (V12.heap.size) P ?sx56 ?sy56 (Blk.new V12 41 #[.int .i64 0, .int .i64 0]) PYj.out PZj.out PAj.out ?_); (case sg56 => rfl); (case so56 => rfl); (case sx56 => rfl); (case sy56 => rfl)))
      have qNrM1 : gN < V12.heap.size := Nr.out.lt
      intro V13 hA hF hB
      have hy := ((Below.refl V12.heap.size V12).alloc (Nat.le_refl _) (.cells #[.int .i64 0, .int .i64 0] 41)).trans (hB _ (Nat.le_refl _))
      replace Fr := Lib.hid (Fr.out.below hy Fr.out.lt)
      replace Gr := Lib.hid (Gr.out.below hy Gr.out.lt)
      replace Nr := Lib.hid (Nr.out.below hy Nr.out.lt)
      replace Kr := Lib.hid (Kr.out.trans (hy.mono Kr.out.size))
      have M1 := Lib.hid hA
      clear hA hF hB hy
      have L57 : (loadVar 31 ⟨gN, 0, none⟩).run Try.prog V13 = .ok (.agg kc) V13 := run_blk_load (P := Try.prog) 31 (gN) _ Nr.out Try.underlying31 rfl KZ.out
      replace L57 := Lib.hid L57
      go_wp2_with (((with_reducible refine wpList_load_want (op := ⟨some 94, .load 31 (.tmp 15), _, _, _, _⟩) ?wg57 31 (.tmp 15) ?wo57 ⟨gN, 0, none⟩ ?wx57 (.agg kc) L57.out ?_); (case wg57 => rfl); (case wo57 => rfl); (case wx57 => rfl)))
      clear L57
      refine (CQj.out gG V13 Gr.out).mono ?_
      rintro e V14 ⟨rfl, hy⟩
      replace Fr := Lib.hid (Fr.out.below hy Fr.out.lt)
      replace Gr := Lib.hid (Gr.out.below hy Gr.out.lt)
      replace Nr := Lib.hid (Nr.out.below hy Nr.out.lt)
      replace Kr := Lib.hid (Kr.out.trans (hy.mono Kr.out.size))
      replace M1 := Lib.hid (M1.out.below hy M1.out.lt)
      clear hy
      go_wp2_with (((with_reducible refine wpList_blk_store (op := ⟨none, .store 41 (.tmp 19) (.tmp 97), _, _, _, _⟩) ?sg58 41 (.tmp 19) (.tmp 97) ?so58 (V14.heap.size) P ?sx58 ?sy58 (Blk.new V14 41 #[.int .i64 0, .int .i64 0]) PYj.out PZj.out PAj.out ?_); (case sg58 => rfl); (case so58 => rfl); (case sx58 => rfl); (case sy58 => rfl)))
      have qNrM2 : gN < V14.heap.size := Nr.out.lt
      have qM1M2 : V12.heap.size < V14.heap.size := M1.out.lt
      intro V15 hA hF hB
      have hy := ((Below.refl V14.heap.size V14).alloc (Nat.le_refl _) (.cells #[.int .i64 0, .int .i64 0] 41)).trans (hB _ (Nat.le_refl _))
      replace Fr := Lib.hid (Fr.out.below hy Fr.out.lt)
      replace Gr := Lib.hid (Gr.out.below hy Gr.out.lt)
      replace Nr := Lib.hid (Nr.out.below hy Nr.out.lt)
      replace Kr := Lib.hid (Kr.out.trans (hy.mono Kr.out.size))
      replace M1 := Lib.hid (M1.out.below hy M1.out.lt)
      have M2 := Lib.hid hA
      clear hA hF hB hy
      have L59 : (loadVar 41 ⟨V12.heap.size, 0, none⟩).run Try.prog V15 = .ok (.agg P) V15 := run_blk_load (P := Try.prog) 41 (V12.heap.size) _ M1.out Try.underlying41 rfl PZj.out
      replace L59 := Lib.hid L59
      have L60 : (loadVar 41 ⟨V14.heap.size, 0, none⟩).run Try.prog V15 = .ok (.agg P) V15 := run_blk_load (P := Try.prog) 41 (V14.heap.size) _ M2.out Try.underlying41 rfl PZj.out
      replace L60 := Lib.hid L60
      go_wp2_with (first | ((with_reducible refine wpList_load_want (op := ⟨some 106, .load 41 (.tmp 17), _, _, _, _⟩) ?wg59 41 (.tmp 17) ?wo59 ⟨V12.heap.size, 0, none⟩ ?wx59 (.agg P) L59.out ?_); (case wg59 => rfl); (case wo59 => rfl); (case wx59 => rfl)) | ((with_reducible refine wpList_load_want (op := ⟨some 107, .load 41 (.tmp 19), _, _, _, _⟩) ?wg60 41 (.tmp 19) ?wo60 ⟨V14.heap.size, 0, none⟩ ?wx60 (.agg P) L60.out ?_); (case wg60 => rfl); (case wo60 => rfl); (case wx60 => rfl)) | ((with_reducible refine wpList_neq (op := ⟨some 108, .binOp .neq 41 (.tmp 106) (.tmp 107) 41, _, _, _, _⟩) ?nq1 (.tmp 106) (.tmp 107) ?nq2 P P ?nq3 ?nq4 true (EQj.out _) ?_); (case nq1 => rfl); (case nq2 => rfl); (case nq3 => rfl); (case nq4 => rfl)))
      clear L59 L60
      go_roundw
      case rel => exact ⟨j + 1, Nat.succ_le_of_lt hlt, by go_num, Fr, Gr, Nr, Kr⟩
      case measure => simp [RowKit.intOf]; omega
    · obtain rfl : j = 2 := by omega
      have d8 : decide (((2 : Nat) : Int) < 2) = false := by decide
      clear CP CQ EQ PY PZ PA
      go_upto_region 29 with fail
      refine wp_region_held (S := (fun w' : World => Below (wr.heap.size) wr w')) (by kernel_rfl) ?_
      change wpAnyH _ _ _ _ _ _ _ _ wr.drew
      have hy : Below wr.heap.size wr wr.drew := (Below.refl _ _).drew
      have hE0 : Below (wr.heap.size) wr wr.drew := (Below.refl _ _).drew
      clear hy
      generalize wr.drew = Y29x0 at hE0  ⊢
      have E0 := Lib.hid hE0
      clear hE0
      refine tkA 0 (?_) ?_ E0.out ?_
      rotate_left
      · (intro w1 hS; go_simp; try with_reducible rfl)
      simp only [Act.put, tS1, tS2, tS3]
      refine tkA 1 (.agg kc) ?_ E0.out ?_
      · (intro w1 hS; have hW := hS; exact exec_load 31 (.tmp 15) rfl _ rfl _ (run_blk_load (P := Try.prog) 31 (gN) _ (Nr.out.below hW Nr.out.lt) Try.underlying31 rfl KZ.out))
      simp only [Act.put, tS1, tS2, tS3]
      refine tkA 3 (?_) ?_ E0.out ?_
      rotate_left
      · (intro w1 hS; go_simp; try with_reducible rfl)
      simp only [Act.put, tS1, tS2, tS3]
      refine tkA 4 (.agg kc) ?_ E0.out ?_
      · (intro w1 hS; have hW := hS; exact exec_load 31 (.tmp 15) rfl _ rfl _ (run_blk_load (P := Try.prog) 31 (gN) _ (Nr.out.below hW Nr.out.lt) Try.underlying31 rfl KZ.out))
      simp only [Act.put, tS1, tS2, tS3]
      refine tkO 2 (fun KK hK => ?_)
      go_simp
      refine (CD1.out gF Y29x0 (Fr.out.below E0.out Fr.out.lt)).mono ?_
      rintro e Y29x1 ⟨rfl, hy⟩
      have E1 := Lib.hid (E0.out.trans (hy.mono E0.out.size))
      have C1 := Lib.hid E1.out
      clear hy E0
      refine hK.out _ _ C1.out (fun _ => ?_)
      clear hK KK
      refine wpAnyH_mono (S' := (fun w' : World => Below Y29x1.heap.size Y29x1 w')) (fun w1 h => C1.out.trans (h.mono C1.out.size)) _ _ _ _ ?_
      clear C1
      try simp only [Act.put, tS1, tS2, tS3]
      refine tkO 5 (fun KK hK => ?_)
      go_simp
      refine (CD2.out gG Y29x1 (Gr.out.below E1.out Gr.out.lt)).mono ?_
      rintro e Y29x2 ⟨rfl, hy⟩
      have E2 := Lib.hid (E1.out.trans (hy.mono E1.out.size))
      have C2 := Lib.hid hy
      clear hy E1
      refine hK.out _ _ C2.out (fun _ => ?_)
      clear hK KK
      refine wpAnyH_mono (S' := (fun w' : World => Below Y29x2.heap.size Y29x2 w')) (fun w1 h => C2.out.trans (h.mono C2.out.size)) _ _ _ _ ?_
      clear C2
      try simp only [Act.put, tS1, tS2, tS3]
      refine tkA 6 (?_) ?_ (Below.refl _ _) ?_
      rotate_left
      · (intro w1 hS; have hW := E2.out.trans (hS.mono E2.out.size); have q := A1F.out; clear hW hS; go_simp; try with_reducible rfl)
      simp only [Act.put, tS1, tS2, tS3]
      refine tkA 7 (?_) ?_ (Below.refl _ _) ?_
      rotate_left
      · (intro w1 hS; go_simp; try with_reducible rfl)
      simp only [Act.put, tS1, tS2, tS3]
      refine tkA 8 (?_) ?_ (Below.refl _ _) ?_
      rotate_left
      · (intro w1 hS; go_simp; try with_reducible rfl)
      simp only [Act.put, tS1, tS2, tS3]
      refine tkA 9 (?_) ?_ (Below.refl _ _) ?_
      rotate_left
      · (intro w1 hS; go_simp; try with_reducible rfl)
      simp only [Act.put, tS1, tS2, tS3]
      refine tkA 10 (.agg kc) ?_ (Below.refl _ _) ?_
      · (intro w1 hS; have hW := E2.out.trans (hS.mono E2.out.size); exact exec_load 31 (.tmp 15) rfl _ rfl _ (run_blk_load (P := Try.prog) 31 (gN) _ (Nr.out.below hW Nr.out.lt) Try.underlying31 rfl KZ.out))
      simp only [Act.put, tS1, tS2, tS3]
      refine tkA 12 (?_) ?_ (Below.refl _ _) ?_
      rotate_left
      · (intro w1 hS; go_simp; try with_reducible rfl)
      simp only [Act.put, tS1, tS2, tS3]
      refine tkA 13 (.agg kc) ?_ (Below.refl _ _) ?_
      · (intro w1 hS; have hW := E2.out.trans (hS.mono E2.out.size); exact exec_load 31 (.tmp 15) rfl _ rfl _ (run_blk_load (P := Try.prog) 31 (gN) _ (Nr.out.below hW Nr.out.lt) Try.underlying31 rfl KZ.out))
      simp only [Act.put, tS1, tS2, tS3]
      refine tkO 11 (fun KK hK => ?_)
      go_simp
      refine (CB1.out gF Y29x2 (Fr.out.below E2.out Fr.out.lt)).mono ?_
      rintro e Y29x3 ⟨x1, rfl, r1, hy⟩
      have E3 := Lib.hid (E2.out.trans (hy.mono E2.out.size))
      have C3 := Lib.hid hy
      have X1 := Lib.hid (r1)
      clear r1
      clear hy E2
      refine hK.out _ _ C3.out (fun _ => ?_)
      clear hK KK
      refine wpAnyH_mono (S' := (fun w' : World => Below Y29x3.heap.size Y29x3 w')) (fun w1 h => C3.out.trans (h.mono C3.out.size)) _ _ _ _ ?_
      clear C3
      try simp only [Act.put, tS1, tS2, tS3]
      refine tkO 14 (fun KK hK => ?_)
      go_simp
      refine (CB2.out gG Y29x3 (Gr.out.below E3.out Gr.out.lt)).mono ?_
      rintro e Y29x4 ⟨x2, rfl, r2, hy⟩
      replace X1 := Lib.hid (X1.out.below hy)
      have E4 := Lib.hid (E3.out.trans (hy.mono E3.out.size))
      have C4 := Lib.hid hy
      have X2 := Lib.hid (r2)
      clear r2
      clear hy E3
      refine hK.out _ _ C4.out (fun _ => ?_)
      clear hK KK
      refine wpAnyH_mono (S' := (fun w' : World => Below Y29x4.heap.size Y29x4 w')) (fun w1 h => C4.out.trans (h.mono C4.out.size)) _ _ _ _ ?_
      clear C4
      try simp only [Act.put, tS1, tS2, tS3]
      refine tkO 15 (fun KK hK => ?_)
      go_simp
      refine (CI.out x1 x2 Y29x4 X1.out X2.out).mono ?_
      rintro e Y29x5 ⟨rfl, hy⟩
      replace X1 := Lib.hid (X1.out.below hy)
      replace X2 := Lib.hid (X2.out.below hy)
      have E5 := Lib.hid (E4.out.trans (hy.mono E4.out.size))
      have C5 := Lib.hid hy
      clear hy E4
      refine hK.out _ _ C5.out (fun _ => ?_)
      clear hK KK
      refine wpAnyH_mono (S' := (fun w' : World => Below Y29x5.heap.size Y29x5 w')) (fun w1 h => C5.out.trans (h.mono C5.out.size)) _ _ _ _ ?_
      clear C5
      try simp only [Act.put, tS1, tS2, tS3]
      refine tkA 16 (?_) ?_ (Below.refl _ _) ?_
      rotate_left
      · (intro w1 hS; go_simp; try with_reducible rfl)
      simp only [Act.put, tS1, tS2, tS3]
      refine tkA 17 (?_) ?_ (Below.refl _ _) ?_
      rotate_left
      · (intro w1 hS; go_simp; try with_reducible rfl)
      simp only [Act.put, tS1, tS2, tS3]
      refine tkA 18 (?_) ?_ (Below.refl _ _) ?_
      rotate_left
      · (intro w1 hS; go_simp; try with_reducible rfl)
      simp only [Act.put, tS1, tS2, tS3]
      refine tkA 19 (.agg kc) ?_ (Below.refl _ _) ?_
      · (intro w1 hS; have hW := E5.out.trans (hS.mono E5.out.size); exact exec_load 31 (.tmp 15) rfl _ rfl _ (run_blk_load (P := Try.prog) 31 (gN) _ (Nr.out.below hW Nr.out.lt) Try.underlying31 rfl KZ.out))
      simp only [Act.put, tS1, tS2, tS3]
      refine tkA 21 (?_) ?_ (Below.refl _ _) ?_
      rotate_left
      · (intro w1 hS; go_simp; try with_reducible rfl)
      simp only [Act.put, tS1, tS2, tS3]
      refine tkA 22 (.agg kc) ?_ (Below.refl _ _) ?_
      · (intro w1 hS; have hW := E5.out.trans (hS.mono E5.out.size); exact exec_load 31 (.tmp 15) rfl _ rfl _ (run_blk_load (P := Try.prog) 31 (gN) _ (Nr.out.below hW Nr.out.lt) Try.underlying31 rfl KZ.out))
      simp only [Act.put, tS1, tS2, tS3]
      refine tkO 20 (fun KK hK => ?_)
      go_simp
      refine (CS1.out gF Y29x5 (Fr.out.below E5.out Fr.out.lt)).mono ?_
      rintro e Y29x6 ⟨rfl, hy⟩
      replace X1 := Lib.hid (X1.out.below hy)
      replace X2 := Lib.hid (X2.out.below hy)
      have E6 := Lib.hid (E5.out.trans (hy.mono E5.out.size))
      have C6 := Lib.hid hy
      clear hy E5
      refine hK.out _ _ C6.out (fun _ => ?_)
      clear hK KK
      refine wpAnyH_mono (S' := (fun w' : World => Below Y29x6.heap.size Y29x6 w')) (fun w1 h => C6.out.trans (h.mono C6.out.size)) _ _ _ _ ?_
      clear C6
      try simp only [Act.put, tS1, tS2, tS3]
      refine tkO 23 (fun KK hK => ?_)
      go_simp
      refine (CS2.out gG Y29x6 (Gr.out.below E6.out Gr.out.lt)).mono ?_
      rintro e Y29x7 ⟨rfl, hy⟩
      replace X1 := Lib.hid (X1.out.below hy)
      replace X2 := Lib.hid (X2.out.below hy)
      have E7 := Lib.hid (E6.out.trans (hy.mono E6.out.size))
      have C7 := Lib.hid hy
      clear hy E6
      refine hK.out _ _ C7.out (fun _ => ?_)
      clear hK KK
      refine wpAnyH_mono (S' := (fun w' : World => Below Y29x7.heap.size Y29x7 w')) (fun w1 h => C7.out.trans (h.mono C7.out.size)) _ _ _ _ ?_
      clear C7
      try simp only [Act.put, tS1, tS2, tS3]
      refine tkA 24 (?_) ?_ (Below.refl _ _) ?_
      rotate_left
      · (intro w1 hS; go_simp; try with_reducible rfl)
      simp only [Act.put, tS1, tS2, tS3]
      refine tkA 25 (?_) ?_ (Below.refl _ _) ?_
      rotate_left
      · (intro w1 hS; go_simp; try with_reducible rfl)
      simp only [Act.put, tS1, tS2, tS3]
      refine tkA 26 (?_) ?_ (Below.refl _ _) ?_
      rotate_left
      · (intro w1 hS; go_simp; try with_reducible rfl)
      simp only [Act.put, tS1, tS2, tS3]
      refine tkO 27 (fun KK hK => ?_)
      go_simp
      refine (CA.out Y29x7).mono ?_
      rintro e Y29x8 ⟨rfl, hy⟩
      replace X1 := Lib.hid (X1.out.below hy)
      replace X2 := Lib.hid (X2.out.below hy)
      have E8 := Lib.hid (E7.out.trans (hy.mono E7.out.size))
      have C8 := Lib.hid hy
      clear hy E7
      refine hK.out _ _ C8.out (fun _ => ?_)
      clear hK KK
      refine wpAnyH_mono (S' := (fun w' : World => Below Y29x8.heap.size Y29x8 w')) (fun w1 h => C8.out.trans (h.mono C8.out.size)) _ _ _ _ ?_
      clear C8
      try simp only [Act.put, tS1, tS2, tS3]
      refine tkA 28 (?_) ?_ (Below.refl _ _) ?_
      rotate_left
      · (intro w1 hS; go_simp; try with_reducible rfl)
      simp only [Act.put, tS1, tS2, tS3]
      refine tkA 29 (?_) ?_ (Below.refl _ _) ?_
      rotate_left
      · (intro w1 hS; go_simp; try with_reducible rfl)
      simp only [Act.put, tS1, tS2, tS3]
      refine wpAnyH_done (by kernel_rfl) ?_ _
      have hy := E8.out
      replace Fr := Lib.hid (Fr.out.below hy Fr.out.lt)
      replace Gr := Lib.hid (Gr.out.below hy Gr.out.lt)
      replace Nr := Lib.hid (Nr.out.below hy Nr.out.lt)
      replace Kr := Lib.hid (Kr.out.trans (hy.mono Kr.out.size))
      clear hy E8
      go_wp2
      go_ret
      exact ⟨rfl, Kr.out⟩
end Go.Proofs.Ytblkpnjmmdbgnaa
