/- Texts that the walks of this seat lean on, put together. -/
import Derived.Deep.CutBlock
import Derived.Deep.DeepCutAuto
import Derived.LoopTactic
import Derived.Handy
import Derived.Test.YthldpnifodbheaaTk
import Derived.Test.YthldpnifodbheaaM42
import Derived.Test.YthldpnifodbheaaM43
namespace Go.Proofs.Ythldpnifodbheaa
open Go.RowKit Go.Lib
theorem ceS (d : Nat) (r : Int) : (ceC true d 0 r).size = zCe.size := by show 4 = 4; rfl
theorem ceI (d : Nat) (r : Int) : (Try.prog.info? 46).map (·.size) = some (ceC true d 0 r).size := by rw [ceS]; exact i46c
theorem ceG (d : Nat) (r : Int) : (ceC true d 0 r)[3]? = some (.int .i64 r) := rfl
set_option maxRecDepth 100000 in
set_option maxHeartbeats 4000000 in
theorem again_walk (va vn : Value) (zs ns : List Int) (n : Int) (w : World) (hva : Rd w va (ivs zs)) (hvn : Rd w vn (ivs ns)) :
    Calls Try.prog 6 #[va, vn, .int .i64 n] w fun e w' => e = .returned (.bool true) ∧ Below w.heap.size w w' := by
  have K := Lib.hid (Below.refl w.heap.size w)
  have AW := Lib.hid awake_any
  have HV := Lib.hid hva
  have HN := Lib.hid hvn
  have CC := Lib.hid (fun v W h => config_any v zs W h)
  have CRD := Lib.hid (fun (k : Int) W => round_any k 100 W (by decide) (by decide))
  have CFL := Lib.hid (fun (m : Int) W => flow_any m false false W)
  obtain ⟨a, cap, rfl, -, -⟩ := rdI_shape hva
  obtain ⟨b, cap2, rfl, -, -⟩ := rdI_shape hvn
  obtain ⟨ln, hln⟩ : ∃ n, n = zs.length := ⟨_, rfl⟩
  obtain ⟨lm, hlm⟩ : ∃ n, n = ns.length := ⟨_, rfl⟩
  rw [← hln] at HV ⊢
  rw [← hlm] at HN ⊢
  have HN0 := HN
  have HLN := Lib.hid hln
  have HLM := Lib.hid hlm
  clear hva hvn hln hlm
  by_cases h0 : ln > 30
  · have e0a : decide ((ln : Int) > 30) = true := decide_eq_true (by omega)
    have e0b : decide (ln > 30) = true := decide_eq_true (by omega)
    have e0c : decide (30 < ln) = true := decide_eq_true (by omega)
    clear HV HN HN0 HLN HLM CC CRD CFL h0
    go_enter Try.func6, Try.ntmps6
    go_wp2_with fail
    refine (AW.out w).mono ?_
    rintro e V1 ⟨rfl, hy⟩
    replace K := Lib.hid (K.out.trans (hy.mono K.out.size))
    clear hy
    go_wp2
    go_ret
    exact ⟨rfl, K.out⟩
  by_cases h1 : lm > 30
  · have e0a : decide ((ln : Int) > 30) = false := decide_eq_false (by omega)
    have e0b : decide (ln > 30) = false := decide_eq_false (by omega)
    have e0c : decide (30 < ln) = false := decide_eq_false (by omega)
    have e1a : decide ((lm : Int) > 30) = true := decide_eq_true (by omega)
    have e1b : decide (lm > 30) = true := decide_eq_true (by omega)
    have e1c : decide (30 < lm) = true := decide_eq_true (by omega)
    clear HV HN HN0 HLN HLM CC CRD CFL h0 h1
    go_enter Try.func6, Try.ntmps6
    go_wp2_with fail
    refine (AW.out w).mono ?_
    rintro e V1 ⟨rfl, hy⟩
    replace K := Lib.hid (K.out.trans (hy.mono K.out.size))
    clear hy
    go_wp2
    go_ret
    exact ⟨rfl, K.out⟩
  have e1d : decide (ln > 30) = false := decide_eq_false (by omega)
  have e1e : decide ((ln : Int) > 30) = false := decide_eq_false (by omega)
  have e1f : decide (30 < ln) = false := decide_eq_false (by omega)
  have e2d : decide (lm > 30) = false := decide_eq_false (by omega)
  have e2e : decide ((lm : Int) > 30) = false := decide_eq_false (by omega)
  have e2f : decide (30 < lm) = false := decide_eq_false (by omega)
  have hlm30 : lm ≤ 30 := by omega
  clear h0 h1
  obtain ⟨ZC, hZC⟩ : ∃ Z, Z = cf0.cs := ⟨_, rfl⟩
  have z29 : ∀ W, (zeroValue 29).run Try.prog W = .ok (.agg ZC) W := by rw [hZC]; exact zero27
  have hZS : ZC.size = 48 := by rw [hZC]; exact cf_size _ cf0_fit
  obtain ⟨c0, hc0⟩ : ∃ c, c = cfg zs := ⟨_, rfl⟩
  have hf0 : c0.Fit := by rw [hc0]; exact cfg_fit zs
  have hk0 : okC c0 = true := by rw [hc0]; exact cfg_ok zs
  rw [← hc0] at CC
  clear hZC hc0
  have RY : Hid (c0.cs.size = ZC.size) := by show _ = _; rw [cf_size c0 hf0, hZS]
  have RZ := Lib.hid (cf_ic c0 hf0)
  have RA := Lib.hid (cf_all c0)
  have CS := Lib.hid (dgC_cs c0 16)
  have hc := dgC_fit hf0 16
  have hok := dgC_ok hk0 16 (by decide) (by decide)
  have RZ2 := Lib.hid (cf_ic (dgC c0 16) hc)
  have HC2 := Lib.hid (cf_get c0 hf0).2.2.1
  have CM := Lib.hid (fun W => made_any (dgC c0 16) hc hok W)
  obtain ⟨c, hcd⟩ : ∃ c, c = dgC c0 16 := ⟨_, rfl⟩
  rw [← hcd] at CS hc hok RZ2 CM
  have CIN := Lib.hid (fun tn fn B c' (hT : TI c c') (k : Fl) (hk : k.Fit) v r W h => insert_any tn fn B c c' hc hok k hk v r W h (fun R h => way_sh (way_ok c hok c' k R h)))
  have ITI := Lib.hid (fun c' (hT : TI c c') (k : Fl) (hk : k.Fit) v r => ins_TI hok hT hk v r)
  have IME := Lib.hid (fun c' (hT : TI c c') (k : Fl) (hk : k.Fit) v r x h => ins_mem hok hT hk v r x h)
  have CDL := Lib.hid (fun tn fn B c' (k : Fl) (hk : k.Fit) W h => delete_any tn fn B c c' hc hok k hk W h)
  have CLN := Lib.hid (fun tn fn B c' W h => tlen_any tn fn B c c' W h)
  have AGN := Lib.hid (fun c' (hT : TI c c') (k : Fl) (hk : k.Fit) (hv : vK k = true) hno he => again_spec (v := 0) (r := 2) (r' := 3) hok hT hk hv (by decide) (by decide) (by decide) hno he)
  have INN := Lib.hid (fun c' (hT : TI c c') (k : Fl) (hk : k.Fit) v r h => @ins_not c c' k hk v r h)
  have FNO := Lib.hid (fun c' (hT : TI c c') (k : Fl) h => find_none (k := k) hok hT h)
  obtain ⟨ZK, hZK⟩ : ∃ Z, Z = k0.cs := ⟨_, rfl⟩
  have z42 : Hid (∀ W, (zeroValue 42).run Try.prog W = .ok (.agg ZK) W) := by rw [hZK]; exact zero42
  have hZKS : ZK.size = 37 := by rw [hZK]; exact Fl.cs_size _ k0_fit
  clear hcd hZK
  go_enter Try.func6, Try.ntmps6
  go_wp2_with fail
  refine (CC.out _ w HV.out).mono ?_
  rintro e V1 ⟨rfl, hy⟩
  replace K := Lib.hid (K.out.trans (hy.mono K.out.size))
  replace HV := Lib.hid (HV.out.below hy)
  replace HN := Lib.hid (HN.out.below hy)
  have hk1 := K.out.size
  clear hy
  go_wp2_with (((with_reducible refine wpList_blk_store (op := ⟨none, .store 29 (.tmp 7) (.tmp 33), _, _, _, _⟩) ?sg1 29 (.tmp 7) (.tmp 33) ?so1 (V1.heap.size) c0.cs ?sx1 ?sy1 (Blk.new V1 29 ZC) RY.out RZ.out RA.out ?_); (case sg1 => rfl); (case so1 => rfl); (case sx1 => rfl); (case sy1 => rfl)))
  intro V2 hA hF hB
  have hy := ((Below.refl V1.heap.size V1).alloc (Nat.le_refl _) (.cells ZC 29)).trans (hB _ (Nat.le_refl _))
  replace K := Lib.hid (K.out.trans (hy.mono K.out.size))
  replace HV := Lib.hid (HV.out.below hy)
  replace HN := Lib.hid (HN.out.below hy)
  have C7 := Lib.hid hA
  clear hA hF hB hy
  have hC7 := C7.out.lt
  have k1 := C7.out.cell 2
  rw [HC2.out] at k1
  have k2 := C7.out.frozen 2
  go_upto_region 5 with fail
  have K3 := Lib.hid (K.out.setCell (p := ⟨V1.heap.size, 2, none⟩) (by show w.heap.size ≤ V1.heap.size; exact hk1) (.int .i64 16))
  have C3 := Lib.hid (show Blk _ _ 29 _ from C7.out.set_ 2 (.int .i64 16))
  rw [← CS.out] at C3
  clear k1 k2 C7 K HV HN z29
  generalize V2.setCell ⟨V1.heap.size, 2, none⟩ (.int .i64 16) = Vc at *
  have L2 : (loadVar 29 ⟨V1.heap.size, 0, none⟩).run Try.prog Vc = .ok (.agg c.cs) Vc := run_blk_load (P := Try.prog) 29 (V1.heap.size) _ C3.out Try.underlying29 rfl RZ2.out
  replace L2 := Lib.hid L2
  go_wp2_with (((with_reducible refine wpList_load_want (op := ⟨some 36, .load 29 (.tmp 7), _, _, _, _⟩) ?wg2 29 (.tmp 7) ?wo2 ⟨V1.heap.size, 0, none⟩ ?wx2 (.agg c.cs) L2.out ?_); (case wg2 => rfl); (case wo2 => rfl); (case wx2 => rfl)))
  clear L2
  have hk3 := K3.out.size
  refine (CM.out Vc).mono ?_
  rintro e V3 ⟨tn, fn, B, rt, rfl, ht, hfn, -, -, hy⟩
  replace K3 := Lib.hid (K3.out.trans (hy.mono K3.out.size))
  replace C3 := Lib.hid (C3.out.below hy C3.out.lt)
  have HT := Lib.hid ht
  have hfB : fn < B := ht.hF
  have hBt : B + (2 + c.st.toNat) ≤ tn := by have := ht.hT; omega
  have hqt := eqt_some ⟨tn, 0, none⟩
  clear ht CM CC RY RZ RA CS
  clear hy
  go_wp2
  go_loopw [10] (fun i wr => ∃ (j : Nat) (c' : Nat → Option Se), j ≤ lm ∧ i = .int .i64 (j : Int) ∧ Hid (TS tn fn B c c' wr) ∧ Hid (TI c c') ∧ Hid (∀ x, memC c c' x → ∃ m : Int, 0 ≤ m ∧ m < 100 ∧ x.k = kflow m false false) ∧ Hid (Below w.heap.size w wr)) (fun i _ => lm - (RowKit.intOf i).toNat)
  case atStart => exact ⟨0, _, Nat.zero_le _, rfl, HT, TI.none c, Lib.hid (fun x hx => by obtain ⟨q, _, h⟩ := hx; cases h), K3⟩
  case round =>
    obtain ⟨j, c', hj, rfl, HTr, HTI, HME, Kr⟩ := hrel
    clear HT K3 C3
    by_cases hlt : j < lm
    · have d1 : decide ((j : Int) < (lm : Int)) = true := decide_eq_true (by omega)
      have d2 : decide (j < lm) = true := decide_eq_true hlt
      have hb2 : 0 ≤ (j : Int) ∧ (j : Int) < (lm : Int) := by omega
      have w6 : IntKind.i64.wrap ((j : Int) + 1) = ((j + 1 : Nat) : Int) := by rw [IntKind.wrap_i64]; omega
      have hnr : Rd wr (.slice b lm cap2) (ivs ns) := HN0.out.below Kr.out
      rw [HLM.out] at hnr
      obtain ⟨bb, off, rfl, hcl⟩ := RdI.cells hnr (by rw [← HLM.out]; omega)
      have c0c := hcl j (by rw [← HLM.out]; exact hlt)
      generalize ns.getD j 0 = z at *
      clear hnr hcl
      go_wp2_with fail
      refine (CRD.out z wr).mono ?_
      rintro e V ⟨rfl, rfl⟩
      go_wp2_with fail
      refine (CFL.out (z % 100) wr).mono ?_
      rintro e V5 ⟨rfl, hy⟩
      replace HTr := Lib.hid (HTr.out.below hy)
      replace Kr := Lib.hid (Kr.out.trans (hy.mono Kr.out.size))
      have hm1 : 0 ≤ z % 100 := by omega
      have hm2 : z % 100 < 100 := by omega
      clear hy c0c
      generalize z % 100 = m at *
      have CI := Lib.hid (CIN.out tn fn B c' HTI.out (kflow m false false) (kflow_fit m false false) 0 1 V5 HTr.out)
      have TI2 := Lib.hid (ITI.out c' HTI.out (kflow m false false) (kflow_fit m false false) 0 1)
      have ME2 : Hid (∀ x, memC c (insC c c' (kflow m false false) (kflow_fit m false false) 0 1) x → ∃ m : Int, 0 ≤ m ∧ m < 100 ∧ x.k = kflow m false false) := fun x hx => by
        rcases IME.out c' HTI.out (kflow m false false) (kflow_fit m false false) 0 1 x hx with rfl | h
        · exact ⟨m, hm1, hm2, rfl⟩
        · exact HME.out x h
      generalize insC c c' (kflow m false false) (kflow_fit m false false) 0 1 = c2 at *
      generalize insE c c' (kflow m false false) 0 1 = e2 at *
      generalize (kflow m false false).cs = kc at *
      go_wp2_with fail
      refine CI.out.mono ?_
      rintro e V6 ⟨mv, rfl, hg, ha, -⟩
      have HT2 := Lib.hid hg
      have K2 := Lib.hid (Kr.out.trans (ha.below (by omega) Kr.out.size))
      clear hg ha CI Kr HTr
      go_wp2
      go_roundw
      case rel => exact ⟨j + 1, c2, hlt, by go_num, HT2, TI2, ME2, K2⟩
      case measure => simp [RowKit.intOf]; omega
    · have d1 : decide ((j : Int) < (lm : Int)) = false := decide_eq_false (by omega)
      have d2 : decide (j < lm) = false := decide_eq_false hlt
      go_wp2_with fail
      refine (CRD.out n wr).mono ?_
      rintro e V ⟨rfl, rfl⟩
      have hm1 : 0 ≤ n % 100 := by omega
      have hm2 : n % 100 < 100 := by omega
      generalize n % 100 = m at *
      have w7 : IntKind.i64.wrap (100 + m) = 100 + m := by rw [IntKind.wrap_i64]; omega
      have hno : Hid (∀ x, memC c c' x → x.k ≠ kflow (100 + m) false false) := fun x hx e => by
        obtain ⟨m', a, b, d⟩ := HME.out x hx
        have := kflow_inj false false a (by omega) (by omega) (by omega) (d.symm.trans e)
        omega
      go_wp2_with fail
      refine (CFL.out (100 + m) wr).mono ?_
      rintro e V5 ⟨rfl, hy⟩
      replace HTr := Lib.hid (HTr.out.below hy)
      replace Kr := Lib.hid (Kr.out.trans (hy.mono Kr.out.size))
      have hkf := kflow_fit (100 + m) false false
      have hkv := kflow_vK (100 + m) false false
      clear hy
      generalize kflow (100 + m) false false = k at *
      have KY : Hid (k.cs.size = ZK.size) := by show _ = _; rw [Fl.cs_size _ hkf, hZKS]
      have KZ := Lib.hid (fl_ik k hkf)
      have KA := Lib.hid (Fl.cs_all k)
      have hz42 := z42.out
      have h4l := HTr.out.lt
      go_wp2_with (((with_reducible refine wpList_blk_store (op := ⟨none, .store 42 (.tmp 11) (.tmp 59), _, _, _, _⟩) ?sg3 42 (.tmp 11) (.tmp 59) ?so3 (V5.heap.size) k.cs ?sx3 ?sy3 (Blk.new V5 42 ZK) KY.out KZ.out KA.out ?_); (case sg3 => rfl); (case so3 => rfl); (case sx3 => rfl); (case sy3 => rfl)))
      intro V301 hA hF hB
      have hy := ((Below.refl V5.heap.size V5).alloc (Nat.le_refl _) (.cells ZK 42)).trans (hB _ (Nat.le_refl _))
      replace HTr := Lib.hid (HTr.out.below hy)
      replace Kr := Lib.hid (Kr.out.trans (hy.mono Kr.out.size))
      have K11 := Lib.hid hA
      clear hA hF hB hy
      go_wp2_with fail
      have h11 := K11.out.lt
      refine (CLN.out tn fn B c' V301 HTr.out).mono ?_
      rintro e V302 ⟨rfl, hy⟩
      replace HTr := Lib.hid (HTr.out.below hy)
      replace Kr := Lib.hid (Kr.out.trans (hy.mono Kr.out.size))
      replace K11 := Lib.hid (K11.out.below hy K11.out.lt)
      clear hy
      have DS := Lib.hid (rC_size none)
      have DI : Hid ((Try.prog.info? 46).map (·.size) = some (rC none).size) := by show _ = _; rw [rC_size]; exact i46c
      have DA := Lib.hid (rC_all none)
      have hz46 := zero46
      have CI := Lib.hid (fun W h => CIN.out tn fn B c' HTI.out k hkf 0 2 W h)
      have hst := HTr.out.lt
      by_cases he : insE c c' k 0 2 = 0
      case neg =>
        obtain ⟨n1, n2⟩ := INN.out c' HTI.out k hkf 0 2 he
        rw [n1, n2] at CI
        have hdn : dlO c c' k = none := FNO.out c' HTI.out k hno.out
        have hdc : dlC c c' k = c' := by unfold dlC; rw [hdn]
        have CDN := Lib.hid (fun W h => CDL.out tn fn B c' k hkf W h)
        rw [hdn, hdc] at CDN
        change Hid (∀ W, _ → Calls _ _ _ _ (fun e w' => e = .returned (.tuple #[.agg (rC none), .bool false]) ∧ _)) at CDN
        generalize insE c c' k 0 2 = E at *
        generalize rC none = cz at *
        have g1 : decide (E = 0) = false := decide_eq_false he
        have g2 : (E == 0) = false := by simpa using he
        have g3 : (E != 0) = true := by simpa using he
        have L4 : (loadVar 42 ⟨V5.heap.size, 0, none⟩).run Try.prog V302 = .ok (.agg k.cs) V302 := run_blk_load (P := Try.prog) 42 (V5.heap.size) _ K11.out Try.underlying42 rfl KZ.out
        replace L4 := Lib.hid L4
        go_wp2_with (((with_reducible refine wpList_load_want (op := ⟨some 64, .load 42 (.tmp 11), _, _, _, _⟩) ?wg4 42 (.tmp 11) ?wo4 ⟨V5.heap.size, 0, none⟩ ?wx4 (.agg k.cs) L4.out ?_); (case wg4 => rfl); (case wo4 => rfl); (case wx4 => rfl)))
        clear L4
        refine (CI.out V302 HTr.out).mono ?_
        rintro e V303 ⟨mv, rfl, hg, ha, ho⟩
        replace Kr := Lib.hid (Kr.out.trans (ha.below (by omega) Kr.out.size))
        replace K11 := Lib.hid (ha.blk K11.out (by omega))
        replace HTr := Lib.hid hg
        clear hg
        clear ha
        clear ho
        have L5 : (loadVar 42 ⟨V5.heap.size, 0, none⟩).run Try.prog V303 = .ok (.agg k.cs) V303 := run_blk_load (P := Try.prog) 42 (V5.heap.size) _ K11.out Try.underlying42 rfl KZ.out
        replace L5 := Lib.hid L5
        go_wp2_with (((with_reducible refine wpList_load_want (op := ⟨some 70, .load 42 (.tmp 11), _, _, _, _⟩) ?wg5 42 (.tmp 11) ?wo5 ⟨V5.heap.size, 0, none⟩ ?wx5 (.agg k.cs) L5.out ?_); (case wg5 => rfl); (case wo5 => rfl); (case wx5 => rfl)))
        clear L5
        refine (CDN.out V303 HTr.out).mono ?_
        rintro e V304 ⟨rfl, hg, ha⟩
        replace Kr := Lib.hid (Kr.out.trans (ha.below (by omega) Kr.out.size))
        replace K11 := Lib.hid (ha.blk K11.out (by omega))
        replace HTr := Lib.hid hg
        clear hg
        clear ha
        go_wp2_with (((with_reducible refine wpList_blk_store (op := ⟨none, .store 46 (.tmp 15) (.tmp 72), _, _, _, _⟩) ?sg6 46 (.tmp 15) (.tmp 72) ?so6 (V304.heap.size) cz ?sx6 ?sy6 (Blk.new V304 46 zCe) DS.out DI.out DA.out ?_); (case sg6 => rfl); (case so6 => rfl); (case sx6 => rfl); (case sy6 => rfl)))
        have qK11X15 : V5.heap.size < V304.heap.size := K11.out.lt
        intro V305 hA hF hB
        have hy := ((Below.refl V304.heap.size V304).alloc (Nat.le_refl _) (.cells zCe 46)).trans (hB _ (Nat.le_refl _))
        replace HTr := Lib.hid (HTr.out.below hy)
        replace Kr := Lib.hid (Kr.out.trans (hy.mono Kr.out.size))
        replace K11 := Lib.hid (K11.out.below hy K11.out.lt)
        have X15 := Lib.hid hA
        clear hA hF hB hy
        have L7 : (loadVar 42 ⟨V5.heap.size, 0, none⟩).run Try.prog V305 = .ok (.agg k.cs) V305 := run_blk_load (P := Try.prog) 42 (V5.heap.size) _ K11.out Try.underlying42 rfl KZ.out
        replace L7 := Lib.hid L7
        go_wp2_with (((with_reducible refine wpList_load_want (op := ⟨some 76, .load 42 (.tmp 11), _, _, _, _⟩) ?wg7 42 (.tmp 11) ?wo7 ⟨V5.heap.size, 0, none⟩ ?wx7 (.agg k.cs) L7.out ?_); (case wg7 => rfl); (case wo7 => rfl); (case wx7 => rfl)))
        clear L7
        refine (CDN.out V305 HTr.out).mono ?_
        rintro e V306 ⟨rfl, hg, ha⟩
        replace Kr := Lib.hid (Kr.out.trans (ha.below (by omega) Kr.out.size))
        replace K11 := Lib.hid (ha.blk K11.out (by omega))
        replace X15 := Lib.hid (ha.blk X15.out (by omega))
        replace HTr := Lib.hid hg
        clear hg
        clear ha
        go_wp2_with (((with_reducible refine wpList_blk_store (op := ⟨none, .store 46 (.tmp 17) (.tmp 78), _, _, _, _⟩) ?sg8 46 (.tmp 17) (.tmp 78) ?so8 (V306.heap.size) cz ?sx8 ?sy8 (Blk.new V306 46 zCe) DS.out DI.out DA.out ?_); (case sg8 => rfl); (case so8 => rfl); (case sx8 => rfl); (case sy8 => rfl)))
        have qK11X17 : V5.heap.size < V306.heap.size := K11.out.lt
        have qX15X17 : V304.heap.size < V306.heap.size := X15.out.lt
        intro V307 hA hF hB
        have hy := ((Below.refl V306.heap.size V306).alloc (Nat.le_refl _) (.cells zCe 46)).trans (hB _ (Nat.le_refl _))
        replace HTr := Lib.hid (HTr.out.below hy)
        replace Kr := Lib.hid (Kr.out.trans (hy.mono Kr.out.size))
        replace K11 := Lib.hid (K11.out.below hy K11.out.lt)
        replace X15 := Lib.hid (X15.out.below hy X15.out.lt)
        have X17 := Lib.hid hA
        clear hA hF hB hy
        go_wp2_with fail
        refine (CLN.out tn fn B c' V307 HTr.out).mono ?_
        rintro e V308 ⟨rfl, hy⟩
        replace HTr := Lib.hid (HTr.out.below hy)
        replace Kr := Lib.hid (Kr.out.trans (hy.mono Kr.out.size))
        replace K11 := Lib.hid (K11.out.below hy K11.out.lt)
        replace X15 := Lib.hid (X15.out.below hy X15.out.lt)
        replace X17 := Lib.hid (X17.out.below hy X17.out.lt)
        clear hy
        go_wp2_with fail
        refine (AW.out V308).mono ?_
        rintro e V309 ⟨rfl, hy⟩
        replace HTr := Lib.hid (HTr.out.below hy)
        replace Kr := Lib.hid (Kr.out.trans (hy.mono Kr.out.size))
        replace K11 := Lib.hid (K11.out.below hy K11.out.lt)
        replace X15 := Lib.hid (X15.out.below hy X15.out.lt)
        replace X17 := Lib.hid (X17.out.below hy X17.out.lt)
        clear hy
        go_wp2
        go_ret
        exact ⟨rfl, Kr.out⟩
      obtain ⟨⟨p, a1⟩, a2, a3, a4, a5, ⟨p', a6⟩, a7⟩ := AGN.out c' HTI.out k hkf hkv hno.out he
      rw [he] at CI
      have CD1 := Lib.hid (fun W h => CDL.out tn fn B (insC c c' k hkf 0 2) k hkf W h)
      rw [a1] at CD1
      change Hid (∀ W, _ → Calls _ _ _ _ (fun e w' => e = .returned (.tuple #[.agg (ceC true (dgN c k) 0 2), .bool true]) ∧ _)) at CD1
      generalize insC c c' k hkf 0 2 = c1 at *
      generalize dlC c c1 k = c2 at *
      have hdc : dlC c c2 k = c2 := by unfold dlC; rw [a4]
      have CD2 := Lib.hid (fun W h => CDL.out tn fn B c2 k hkf W h)
      rw [a4, hdc] at CD2
      change Hid (∀ W, _ → Calls _ _ _ _ (fun e w' => e = .returned (.tuple #[.agg (rC none), .bool false]) ∧ _)) at CD2
      have CI2 := Lib.hid (fun W h => CIN.out tn fn B c2 a2 k hkf 0 3 W h)
      rw [a5] at CI2
      have CD3 := Lib.hid (fun W h => CDL.out tn fn B (insC c c2 k hkf 0 3) k hkf W h)
      rw [a6] at CD3
      change Hid (∀ W, _ → Calls _ _ _ _ (fun e w' => e = .returned (.tuple #[.agg (ceC true (dgN c k) 0 3), .bool true]) ∧ _)) at CD3
      generalize insC c c2 k hkf 0 3 = c3 at *
      generalize dlC c c3 k = c4 at *
      have CL4 := Lib.hid (fun W h => CLN.out tn fn B c4 W h)
      rw [show (itF c4 0 (c.st.toNat * c.sz.toNat)).length = (itF c' 0 (c.st.toNat * c.sz.toNat)).length from a7] at CL4
      have ES := Lib.hid (ceS (dgN c k) 2)
      have EI := Lib.hid (ceI (dgN c k) 2)
      have EA := Lib.hid (ceC_all true (dgN c k) 0 2)
      have E3 := Lib.hid (ceG (dgN c k) 2)
      have FS := Lib.hid (ceS (dgN c k) 3)
      have FI := Lib.hid (ceI (dgN c k) 3)
      have FA := Lib.hid (ceC_all true (dgN c k) 0 3)
      have F3 := Lib.hid (ceG (dgN c k) 3)
      generalize ceC true (dgN c k) 0 2 = ce1 at *
      generalize ceC true (dgN c k) 0 3 = ce2 at *
      generalize rC none = cz at *
      clear a1 a3 a4 a5 a6 a7 hdc CDL AGN INN FNO CIN
      have L9 : (loadVar 42 ⟨V5.heap.size, 0, none⟩).run Try.prog V302 = .ok (.agg k.cs) V302 := run_blk_load (P := Try.prog) 42 (V5.heap.size) _ K11.out Try.underlying42 rfl KZ.out
      replace L9 := Lib.hid L9
      go_wp2_with (((with_reducible refine wpList_load_want (op := ⟨some 64, .load 42 (.tmp 11), _, _, _, _⟩) ?wg9 42 (.tmp 11) ?wo9 ⟨V5.heap.size, 0, none⟩ ?wx9 (.agg k.cs) L9.out ?_); (case wg9 => rfl); (case wo9 => rfl); (case wx9 => rfl)))
      clear L9
      refine (CI.out V302 HTr.out).mono ?_
      rintro e V303 ⟨mv, rfl, hg, ha, ho⟩
      replace Kr := Lib.hid (Kr.out.trans (ha.below (by omega) Kr.out.size))
      replace K11 := Lib.hid (ha.blk K11.out (by omega))
      replace HTr := Lib.hid hg
      clear hg
      clear ha
      clear ho
      have L10 : (loadVar 42 ⟨V5.heap.size, 0, none⟩).run Try.prog V303 = .ok (.agg k.cs) V303 := run_blk_load (P := Try.prog) 42 (V5.heap.size) _ K11.out Try.underlying42 rfl KZ.out
      replace L10 := Lib.hid L10
      go_wp2_with (((with_reducible refine wpList_load_want (op := ⟨some 70, .load 42 (.tmp 11), _, _, _, _⟩) ?wg10 42 (.tmp 11) ?wo10 ⟨V5.heap.size, 0, none⟩ ?wx10 (.agg k.cs) L10.out ?_); (case wg10 => rfl); (case wo10 => rfl); (case wx10 => rfl)))
      clear L10
      refine (CD1.out V303 HTr.out).mono ?_
      rintro e V304 ⟨rfl, hg, ha⟩
      replace Kr := Lib.hid (Kr.out.trans (ha.below (by omega) Kr.out.size))
      replace K11 := Lib.hid (ha.blk K11.out (by omega))
      replace HTr := Lib.hid hg
      clear hg
      clear ha
      go_wp2_with (((with_reducible refine wpList_blk_store (op := ⟨none, .store 46 (.tmp 15) (.tmp 72), _, _, _, _⟩) ?sg11 46 (.tmp 15) (.tmp 72) ?so11 (V304.heap.size) ce1 ?sx11 ?sy11 (Blk.new V304 46 zCe) ES.out EI.out EA.out ?_); (case sg11 => rfl); (case so11 => rfl); (case sx11 => rfl); (case sy11 => rfl)))
      have qK11X15 : V5.heap.size < V304.heap.size := K11.out.lt
      intro V305 hA hF hB
      have hy := ((Below.refl V304.heap.size V304).alloc (Nat.le_refl _) (.cells zCe 46)).trans (hB _ (Nat.le_refl _))
      replace HTr := Lib.hid (HTr.out.below hy)
      replace Kr := Lib.hid (Kr.out.trans (hy.mono Kr.out.size))
      replace K11 := Lib.hid (K11.out.below hy K11.out.lt)
      have X15 := Lib.hid hA
      clear hA hF hB hy
      have L12 : (loadVar 42 ⟨V5.heap.size, 0, none⟩).run Try.prog V305 = .ok (.agg k.cs) V305 := run_blk_load (P := Try.prog) 42 (V5.heap.size) _ K11.out Try.underlying42 rfl KZ.out
      replace L12 := Lib.hid L12
      go_wp2_with (((with_reducible refine wpList_load_want (op := ⟨some 76, .load 42 (.tmp 11), _, _, _, _⟩) ?wg12 42 (.tmp 11) ?wo12 ⟨V5.heap.size, 0, none⟩ ?wx12 (.agg k.cs) L12.out ?_); (case wg12 => rfl); (case wo12 => rfl); (case wx12 => rfl)))
      clear L12
      refine (CD2.out V305 HTr.out).mono ?_
      rintro e V306 ⟨rfl, hg, ha⟩
      replace Kr := Lib.hid (Kr.out.trans (ha.below (by omega) Kr.out.size))
      replace K11 := Lib.hid (ha.blk K11.out (by omega))
      replace X15 := Lib.hid (ha.blk X15.out (by omega))
      replace HTr := Lib.hid hg
      clear hg
      clear ha
      have h15 := X15.out.lt
      go_wp2_with (((with_reducible refine wpList_blk_store (op := ⟨none, .store 46 (.tmp 17) (.tmp 78), _, _, _, _⟩) ?sg13 46 (.tmp 17) (.tmp 78) ?so13 (V306.heap.size) cz ?sx13 ?sy13 (Blk.new V306 46 zCe) DS.out DI.out DA.out ?_); (case sg13 => rfl); (case so13 => rfl); (case sx13 => rfl); (case sy13 => rfl)))
      have qK11X17 : V5.heap.size < V306.heap.size := K11.out.lt
      have qX15X17 : V304.heap.size < V306.heap.size := X15.out.lt
      intro V307 hA hF hB
      have hy := ((Below.refl V306.heap.size V306).alloc (Nat.le_refl _) (.cells zCe 46)).trans (hB _ (Nat.le_refl _))
      replace HTr := Lib.hid (HTr.out.below hy)
      replace Kr := Lib.hid (Kr.out.trans (hy.mono Kr.out.size))
      replace K11 := Lib.hid (K11.out.below hy K11.out.lt)
      replace X15 := Lib.hid (X15.out.below hy X15.out.lt)
      have X17 := Lib.hid hA
      clear hA hF hB hy
      have L14 : (loadVar 42 ⟨V5.heap.size, 0, none⟩).run Try.prog V307 = .ok (.agg k.cs) V307 := run_blk_load (P := Try.prog) 42 (V5.heap.size) _ K11.out Try.underlying42 rfl KZ.out
      replace L14 := Lib.hid L14
      go_wp2_with (((with_reducible refine wpList_load_want (op := ⟨some 95, .load 42 (.tmp 11), _, _, _, _⟩) ?wg14 42 (.tmp 11) ?wo14 ⟨V5.heap.size, 0, none⟩ ?wx14 (.agg k.cs) L14.out ?_); (case wg14 => rfl); (case wo14 => rfl); (case wx14 => rfl)))
      clear L14
      refine (CI2.out V307 HTr.out).mono ?_
      rintro e V308 ⟨mv2, rfl, hg, ha, ho⟩
      replace Kr := Lib.hid (Kr.out.trans (ha.below (by omega) Kr.out.size))
      replace K11 := Lib.hid (ha.blk K11.out (by omega))
      replace X15 := Lib.hid (ha.blk X15.out (by omega))
      replace X17 := Lib.hid (ha.blk X17.out (by omega))
      replace HTr := Lib.hid hg
      clear hg
      clear ha
      clear ho
      have L15 : (loadVar 42 ⟨V5.heap.size, 0, none⟩).run Try.prog V308 = .ok (.agg k.cs) V308 := run_blk_load (P := Try.prog) 42 (V5.heap.size) _ K11.out Try.underlying42 rfl KZ.out
      replace L15 := Lib.hid L15
      go_wp2_with (((with_reducible refine wpList_load_want (op := ⟨some 101, .load 42 (.tmp 11), _, _, _, _⟩) ?wg15 42 (.tmp 11) ?wo15 ⟨V5.heap.size, 0, none⟩ ?wx15 (.agg k.cs) L15.out ?_); (case wg15 => rfl); (case wo15 => rfl); (case wx15 => rfl)))
      clear L15
      refine (CD3.out V308 HTr.out).mono ?_
      rintro e V309 ⟨rfl, hg, ha⟩
      replace Kr := Lib.hid (Kr.out.trans (ha.below (by omega) Kr.out.size))
      replace K11 := Lib.hid (ha.blk K11.out (by omega))
      replace X15 := Lib.hid (ha.blk X15.out (by omega))
      replace X17 := Lib.hid (ha.blk X17.out (by omega))
      replace HTr := Lib.hid hg
      clear hg
      clear ha
      go_wp2_with (((with_reducible refine wpList_blk_store (op := ⟨none, .store 46 (.tmp 21) (.tmp 103), _, _, _, _⟩) ?sg16 46 (.tmp 21) (.tmp 103) ?so16 (V309.heap.size) ce2 ?sx16 ?sy16 (Blk.new V309 46 zCe) FS.out FI.out FA.out ?_); (case sg16 => rfl); (case so16 => rfl); (case sx16 => rfl); (case sy16 => rfl)))
      have qK11X21 : V5.heap.size < V309.heap.size := K11.out.lt
      have qX15X21 : V304.heap.size < V309.heap.size := X15.out.lt
      have qX17X21 : V306.heap.size < V309.heap.size := X17.out.lt
      intro V310 hA hF hB
      have hy := ((Below.refl V309.heap.size V309).alloc (Nat.le_refl _) (.cells zCe 46)).trans (hB _ (Nat.le_refl _))
      replace HTr := Lib.hid (HTr.out.below hy)
      replace Kr := Lib.hid (Kr.out.trans (hy.mono Kr.out.size))
      replace K11 := Lib.hid (K11.out.below hy K11.out.lt)
      replace X15 := Lib.hid (X15.out.below hy X15.out.lt)
      replace X17 := Lib.hid (X17.out.below hy X17.out.lt)
      have X21 := Lib.hid hA
      clear hA hF hB hy
      have c15 := (X15.out.cell 3).trans E3.out
      have c21 := (X21.out.cell 3).trans F3.out
      go_wp2_with fail
      refine (CL4.out V310 HTr.out).mono ?_
      rintro e V311 ⟨rfl, hy⟩
      replace HTr := Lib.hid (HTr.out.below hy)
      replace Kr := Lib.hid (Kr.out.trans (hy.mono Kr.out.size))
      replace K11 := Lib.hid (K11.out.below hy K11.out.lt)
      replace X15 := Lib.hid (X15.out.below hy X15.out.lt)
      replace X17 := Lib.hid (X17.out.below hy X17.out.lt)
      replace X21 := Lib.hid (X21.out.below hy X21.out.lt)
      clear hy
      go_wp2_with fail
      refine (AW.out V311).mono ?_
      rintro e V312 ⟨rfl, hy⟩
      replace HTr := Lib.hid (HTr.out.below hy)
      replace Kr := Lib.hid (Kr.out.trans (hy.mono Kr.out.size))
      replace K11 := Lib.hid (K11.out.below hy K11.out.lt)
      replace X15 := Lib.hid (X15.out.below hy X15.out.lt)
      replace X17 := Lib.hid (X17.out.below hy X17.out.lt)
      replace X21 := Lib.hid (X21.out.below hy X21.out.lt)
      clear hy
      go_wp2
      go_ret
      exact ⟨rfl, Kr.out⟩
end Go.Proofs.Ythldpnifodbheaa
