/- Texts that the walks of this seat lean on, put together. -/
import Derived.Deep.CutBlock
import Derived.Deep.DeepCutAuto
import Derived.LoopTactic
import Derived.Handy
import Derived.Test.YthldpnifodbheaaTk
import Derived.Test.YthldpnifodbheaaM36
import Derived.Test.YthldpnifodbheaaM44
namespace Go.Proofs.Ythldpnifodbheaa
open Go.RowKit Go.Lib
set_option maxRecDepth 100000 in
set_option maxHeartbeats 4000000 in
theorem twins_walk (va vn : Value) (zs ns : List Int) (w : World) (hva : Rd w va (ivs zs)) (hvn : Rd w vn (ivs ns)) :
    Calls Try.prog 4 #[va, vn] w fun e w' => e = .returned (.bool true) ∧ Below w.heap.size w w' := by
  have K := Lib.hid (Below.refl w.heap.size w)
  have AW := Lib.hid awake_any
  have HV := Lib.hid hva
  have HN := Lib.hid hvn
  have CC := Lib.hid (fun v W h => config_any v zs W h)
  have CFL := Lib.hid (fun (m : Int) W => flow_any m false false W)
  obtain ⟨a, cap, rfl, -, -⟩ := rdI_shape hva
  obtain ⟨b, cap2, rfl, -, -⟩ := rdI_shape hvn
  obtain ⟨ln, hln⟩ : ∃ n, n = zs.length := ⟨_, rfl⟩
  obtain ⟨lm, hlm⟩ : ∃ n, n = ns.length := ⟨_, rfl⟩
  rw [← hln] at HV ⊢
  rw [← hlm] at HN ⊢
  have HN0 := HN
  have HLN := Lib.hid hln
  have HLM := Lib.hid hlm
  clear hva hvn hln hlm
  by_cases h0 : ln > 30
  · have e0a : decide ((ln : Int) > 30) = true := decide_eq_true (by omega)
    have e0b : decide (ln > 30) = true := decide_eq_true (by omega)
    have e0c : decide (30 < ln) = true := decide_eq_true (by omega)
    clear HV HN HN0 HLN HLM CC CFL h0
    go_enter Try.func4, Try.ntmps4
    go_wp2_with fail
    refine (AW.out w).mono ?_
    rintro e V1 ⟨rfl, hy⟩
    replace K := Lib.hid (K.out.trans (hy.mono K.out.size))
    clear hy
    go_wp2
    go_ret
    exact ⟨rfl, K.out⟩
  by_cases h1 : lm > 40
  · have e0a : decide ((ln : Int) > 30) = false := decide_eq_false (by omega)
    have e0b : decide (ln > 30) = false := decide_eq_false (by omega)
    have e0c : decide (30 < ln) = false := decide_eq_false (by omega)
    have e1a : decide ((lm : Int) > 40) = true := decide_eq_true (by omega)
    have e1b : decide (lm > 40) = true := decide_eq_true (by omega)
    have e1c : decide (40 < lm) = true := decide_eq_true (by omega)
    clear HV HN HN0 HLN HLM CC CFL h0 h1
    go_enter Try.func4, Try.ntmps4
    go_wp2_with fail
    refine (AW.out w).mono ?_
    rintro e V1 ⟨rfl, hy⟩
    replace K := Lib.hid (K.out.trans (hy.mono K.out.size))
    clear hy
    go_wp2
    go_ret
    exact ⟨rfl, K.out⟩
  have e1d : decide (ln > 30) = false := decide_eq_false (by omega)
  have e1e : decide ((ln : Int) > 30) = false := decide_eq_false (by omega)
  have e1f : decide (30 < ln) = false := decide_eq_false (by omega)
  have e2d : decide (lm > 40) = false := decide_eq_false (by omega)
  have e2e : decide ((lm : Int) > 40) = false := decide_eq_false (by omega)
  have e2f : decide (40 < lm) = false := decide_eq_false (by omega)
  have hlm30 : lm ≤ 40 := by omega
  clear h0 h1
  obtain ⟨ZC, hZC⟩ : ∃ Z, Z = cf0.cs := ⟨_, rfl⟩
  have z29 : ∀ W, (zeroValue 29).run Try.prog W = .ok (.agg ZC) W := by rw [hZC]; exact zero27
  have hZS : ZC.size = 48 := by rw [hZC]; exact cf_size _ cf0_fit
  obtain ⟨c0, hc0⟩ : ∃ c, c = cfg zs := ⟨_, rfl⟩
  have hf0 : c0.Fit := by rw [hc0]; exact cfg_fit zs
  have hk0 : okC c0 = true := by rw [hc0]; exact cfg_ok zs
  rw [← hc0] at CC
  clear hZC hc0
  obtain ⟨dm, hdm⟩ : ∃ d : Int, d = min c0.dg 4 := ⟨_, rfl⟩
  have hdg := okC_dg hk0
  have hd1 : 1 ≤ dm ∧ dm ≤ 16 := by rw [hdm]; omega
  have RY : Hid (c0.cs.size = ZC.size) := by show _ = _; rw [cf_size c0 hf0, hZS]
  have RZ := Lib.hid (cf_ic c0 hf0)
  have RA := Lib.hid (cf_all c0)
  have CS := Lib.hid (dgC_cs c0 dm)
  have hc := dgC_fit hf0 dm
  have hok := dgC_ok hk0 dm hd1.1 hd1.2
  have RZ2 := Lib.hid (cf_ic (dgC c0 dm) hc)
  have HC2 := Lib.hid (cf_get c0 hf0).2.2.1
  have CM := Lib.hid (fun W => made_any (dgC c0 dm) hc hok W)
  obtain ⟨c, hcd⟩ : ∃ c, c = dgC c0 dm := ⟨_, rfl⟩
  rw [← hcd] at CS hc hok RZ2 CM
  have HDM : Hid (min c0.dg 4 = dm) := hdm.symm
  generalize c0.dg = d0 at *
  have CIN := Lib.hid (fun tn fn B c' (k : Fl) (hk : k.Fit) v r W h => insert_any tn fn B c c' hc hok k hk v r W h (fun R h => way_sh (way_ok c hok c' k R h)))
  have CTW := Lib.hid (fun tn fn B c' (k : Fl) (hk : k.Fit) (hv : vK k = true) v W h => twin_any tn fn B c c' hc hok k hk hv v W h)
  have CLN := Lib.hid (fun tn fn B c' W h => tlen_any tn fn B c c' W h)
  have CPL := Lib.hid (fun (k : Fl) (hk : k.Fit) s (hs : s ≤ 1000) W => rplace_any c hc hok s hs k hk W)
  have CDG := Lib.hid (fun (k : Fl) (hk : k.Fit) (hv : vK k = true) W => rdigest_yes c hc hok k hk hv W)
  have PLT := Lib.hid (fun (k : Fl) s => plN_lt c k s hok)
  have TOK := Lib.hid (fun c' L (hF : TwI c c' L) (k : Fl) (hv : vK k = true) => tw_ok hF hv)
  have TIN := Lib.hid (fun c' L (hF : TwI c c' L) (k : Fl) (hk : k.Fit) (hv : vK k = true) => tw_ins hok hF hk hv)
  have hst := okC_st hok
  have G0 := Lib.hid (cf_get3 c).1
  obtain ⟨ZK, hZK⟩ : ∃ Z, Z = k0.cs := ⟨_, rfl⟩
  have z42 : Hid (∀ W, (zeroValue 42).run Try.prog W = .ok (.agg ZK) W) := by rw [hZK]; exact zero42
  have hZKS : ZK.size = 37 := by rw [hZK]; exact Fl.cs_size _ k0_fit
  clear hcd hZK hdm hd1 hdg hf0 hk0
  go_enter Try.func4, Try.ntmps4
  go_wp2_with fail
  refine (CC.out _ w HV.out).mono ?_
  rintro e V1 ⟨rfl, hy⟩
  replace K := Lib.hid (K.out.trans (hy.mono K.out.size))
  replace HV := Lib.hid (HV.out.below hy)
  replace HN := Lib.hid (HN.out.below hy)
  have hk1 := K.out.size
  clear hy
  go_wp2_with (((with_reducible refine wpList_blk_store (op := ⟨none, .store 29 (.tmp 5) (.tmp 31), _, _, _, _⟩) ?sg1 29 (.tmp 5) (.tmp 31) ?so1 (V1.heap.size) c0.cs ?sx1 ?sy1 (Blk.new V1 29 ZC) RY.out RZ.out RA.out ?_); (case sg1 => rfl); (case so1 => rfl); (case sx1 => rfl); (case sy1 => rfl)))
  intro V2 hA hF hB
  have hy := ((Below.refl V1.heap.size V1).alloc (Nat.le_refl _) (.cells ZC 29)).trans (hB _ (Nat.le_refl _))
  replace K := Lib.hid (K.out.trans (hy.mono K.out.size))
  replace HV := Lib.hid (HV.out.below hy)
  replace HN := Lib.hid (HN.out.below hy)
  have C7 := Lib.hid hA
  clear hA hF hB hy
  have hC7 := C7.out.lt
  have k1 := C7.out.cell 2
  rw [HC2.out] at k1
  have k2 := C7.out.frozen 2
  have m1 := HDM.out
  go_upto_region 5 with fail
  have K3 := Lib.hid (K.out.setCell (p := ⟨V1.heap.size, 2, none⟩) (by show w.heap.size ≤ V1.heap.size; exact hk1) (.int .i64 dm))
  have C3 := Lib.hid (show Blk _ _ 29 _ from C7.out.set_ 2 (.int .i64 dm))
  rw [← CS.out] at C3
  clear k1 k2 m1 C7 K HV HN z29
  generalize V2.setCell ⟨V1.heap.size, 2, none⟩ (.int .i64 dm) = Vc at *
  generalize c.cs = cc at *
  have L2 : (loadVar 29 ⟨V1.heap.size, 0, none⟩).run Try.prog Vc = .ok (.agg cc) Vc := run_blk_load (P := Try.prog) 29 (V1.heap.size) _ C3.out Try.underlying29 rfl RZ2.out
  replace L2 := Lib.hid L2
  go_wp2_with (((with_reducible refine wpList_load_want (op := ⟨some 37, .load 29 (.tmp 5), _, _, _, _⟩) ?wg2 29 (.tmp 5) ?wo2 ⟨V1.heap.size, 0, none⟩ ?wx2 (.agg cc) L2.out ?_); (case wg2 => rfl); (case wo2 => rfl); (case wx2 => rfl)))
  clear L2
  have hk3 := K3.out.size
  have h3l := C3.out.lt
  refine (CM.out Vc).mono ?_
  rintro e V3 ⟨tn, fn, B, rt, rfl, ht, hfn, -, -, hy⟩
  replace K3 := Lib.hid (K3.out.trans (hy.mono K3.out.size))
  replace C3 := Lib.hid (C3.out.below hy C3.out.lt)
  have HT := Lib.hid ht
  have hfB : fn < B := ht.hF
  have hBt : B + (2 + c.st.toNat) ≤ tn := by have := ht.hT; omega
  have hqt := eqt_some ⟨tn, 0, none⟩
  have htl := ht.lt
  clear ht CM CC RY RZ RA CS HDM
  clear hy
  obtain ⟨g5, hg5⟩ : ∃ g, g = V1.heap.size := ⟨_, rfl⟩
  have hg5B : g5 < B := by omega
  rw [← hg5] at C3 ⊢
  clear hg5
  obtain ⟨b0, hb0⟩ : ∃ b, b = V3.heap.size := ⟨_, rfl⟩
  have htb : tn < b0 := by omega
  have hb0w : b0 ≤ V3.heap.size := by omega
  have hwb0 : w.heap.size ≤ b0 := by have := K3.out.size; omega
  clear hb0
  go_wp2
  go_loopw [8, 9] (fun r i wr => ∃ (j : Nat) (c' : Nat → Option Se) (L : List Fl), j ≤ lm ∧ L.length ≤ j ∧ i = .int .i64 (j : Int) ∧ Hid (TS tn fn B c c' wr) ∧ Hid (TwI c c' L) ∧ Hid (wr.ownsRow b0 42 37 r L.length (flcs L)) ∧ Hid (∀ l ∈ L, l.Fit) ∧ Hid (Blk wr g5 29 cc) ∧ Hid (Below w.heap.size w wr) ∧ b0 ≤ wr.heap.size) (fun _ i _ => lm - (RowKit.intOf i).toNat)
  case atStart => exact ⟨0, _, [], Nat.zero_le _, Nat.le_refl _, rfl, HT, TwI.none c, World.ownsRow_nil _ _ _ _, (fun _ h => by cases h), C3, K3, hb0w⟩
  case round =>
    obtain ⟨j, c', L, hj, hLj, rfl, HTr, HTI, OW, HLF, C5, Kr, hbr⟩ := hrel
    clear HT K3 C3 hb0w
    obtain ⟨ra, rcap, hrs⟩ := row_shape OW.out
    by_cases hlt : j < lm
    · clear AW CLN
      have d1 : decide ((j : Int) < (lm : Int)) = true := decide_eq_true (by omega)
      have d2 : decide (j < lm) = true := decide_eq_true hlt
      have hb2 : 0 ≤ (j : Int) ∧ (j : Int) < (lm : Int) := by omega
      have w6 : IntKind.i64.wrap ((j : Int) + 1) = ((j + 1 : Nat) : Int) := by rw [IntKind.wrap_i64]; omega
      have hnr := HN0.out
      rw [HLM.out] at hnr
      obtain ⟨bb, off, rfl, hcl⟩ := RdI.cells hnr (by rw [← HLM.out]; omega)
      have c00 := Lib.hid (hcl j (by rw [← HLM.out]; exact hlt))
      have hb0 : bb < w.heap.size := World.block_lt_of_cell? w _ c00.out
      have c0c := (Kr.out.cell (p := ⟨bb, off + j, none⟩) hb0).trans c00.out
      generalize ns.getD j 0 = z at *
      clear hnr hcl
      have hkf := kflow_fit z false false
      have hkv := kflow_vK z false false
      have CF1 := Lib.hid (fun W => CFL.out z W)
      generalize kflow z false false = k at *
      obtain ⟨v1, v2, v3⟩ := TOK.out c' L HTI.out k hkv
      obtain ⟨v4, v5, v6⟩ := TIN.out c' L HTI.out k hkf hkv
      have HTK := Lib.hid v3
      have HT4 := Lib.hid v4
      have HT5 := Lib.hid v5
      have HT6 := Lib.hid v6
      have HTB := Lib.hid v1
      have CT1 := Lib.hid (fun W h => CTW.out tn fn B c' k hkf hkv 1 W h)
      have CT2 := Lib.hid (fun W h => CTW.out tn fn B c' k hkf hkv 2 W h)
      rw [v2] at CT2
      change Hid (∀ W, _ → Calls _ _ _ _ (fun e w' => e = .returned (.tuple #[.agg (tkC none), .bool false]) ∧ _)) at CT2
      have CI1 := Lib.hid (fun W h => CIN.out tn fn B c' k hkf 1 0 W h)
      have CK := Lib.hid (fun s hs W => CPL.out k hkf s hs W)
      have CDK := Lib.hid (fun W => CDG.out k hkf hkv W)
      have HKF := Lib.hid hkf
      clear v1 v2 v3 v4 v5 v6 TOK TIN CTW CIN
      generalize insC c c' k hkf 1 0 = c2 at *
      generalize insM c c' k 1 0 = im at *
      generalize insE c c' k 1 0 = E at *
      generalize twF c k 1 (itF c' 0 (c.st.toNat * c.sz.toNat)) = tw at *
      have TY : Hid ((tkC none).size = ZK.size) := by show _ = _; rw [hZKS]; exact Fl.cs_size _ k0_fit
      have TZ : Hid ((Try.prog.info? 42).map (·.size) = some (tkC none).size) := fl_ik k0 k0_fit
      have TA := Lib.hid (tkC_all none)
      generalize tkC none = kt at *
      have KY : Hid (k.cs.size = ZK.size) := by show _ = _; rw [Fl.cs_size _ hkf, hZKS]
      have KZ := Lib.hid (fl_ik k hkf)
      have KA := Lib.hid (Fl.cs_all k)
      have hz42 := z42.out
      have h4l := HTr.out.lt
      have h5l := C5.out.lt
      go_wp2_with fail
      refine (CF1.out wr).mono ?_
      rintro e V201 ⟨rfl, hy⟩
      replace OW := Lib.hid (own_keep OW.out hy)
      replace HTr := Lib.hid (HTr.out.below hy)
      replace Kr := Lib.hid (Kr.out.trans (hy.mono Kr.out.size))
      replace C5 := Lib.hid (C5.out.below hy C5.out.lt)
      have h4m := HTr.out.lt
      have hs12 := hy.size
      clear hy
      go_wp2_with (((with_reducible refine wpList_blk_store (op := ⟨none, .store 42 (.tmp 10) (.tmp 53), _, _, _, _⟩) ?sg3 42 (.tmp 10) (.tmp 53) ?so3 (V201.heap.size) k.cs ?sx3 ?sy3 (Blk.new V201 42 ZK) KY.out KZ.out KA.out ?_); (case sg3 => rfl); (case so3 => rfl); (case sx3 => rfl); (case sy3 => rfl)))
      have qC5K10 : g5 < V201.heap.size := C5.out.lt
      intro V202 hA hF hB
      have hy := ((Below.refl V201.heap.size V201).alloc (Nat.le_refl _) (.cells ZK 42)).trans (hB _ (Nat.le_refl _))
      replace OW := Lib.hid (own_keep OW.out hy)
      replace HTr := Lib.hid (HTr.out.below hy)
      replace Kr := Lib.hid (Kr.out.trans (hy.mono Kr.out.size))
      replace C5 := Lib.hid (C5.out.below hy C5.out.lt)
      have K10 := Lib.hid hA
      clear hA hF hB hy
      go_wp2_with fail
      obtain ⟨g10, hg10⟩ : ∃ g, g = V201.heap.size := ⟨_, rfl⟩
      have htg : tn < g10 := by omega
      have hbg : b0 ≤ g10 := by omega
      rw [← hg10] at K10 ⊢
      clear hg10
      have RK := Lib.hid (RdK.of_own OW.out HLF.out)
      subst hrs
      have h10l := K10.out.lt
      have KS := Lib.hid (Below.refl V202.heap.size V202)
      go_loopw [11, 12] (fun tb jj wr => ∃ j2 : Nat, j2 ≤ L.length ∧ jj = .int .i64 (j2 : Int) ∧ tb = .bool (twL c k (L.take j2)) ∧ Hid (Below V202.heap.size V202 wr)) (fun _ jj _ => L.length - (RowKit.intOf jj).toNat)
      case atStart => exact ⟨0, Nat.zero_le _, rfl, rfl, KS⟩
      case round =>
        obtain ⟨j2, hj2, rfl, rfl, KL⟩ := hrel
        clear KS
        by_cases hlt2 : j2 < L.length
        · as_aux_lemma =>
            clear CT1 CT2 CI1 HT4 HT5 HT6 HTB HTK TY TZ TA
            have f1 : decide ((j2 : Int) < (L.length : Int)) = true := decide_eq_true (by omega)
            have f2 : decide (j2 < L.length) = true := decide_eq_true hlt2
            have hb3 : 0 ≤ (j2 : Int) ∧ (j2 : Int) < (L.length : Int) := by omega
            have w7 : IntKind.i64.wrap ((j2 : Int) + 1) = ((j2 + 1 : Nat) : Int) := by rw [IntKind.wrap_i64]; omega
            obtain ⟨gr, cur, rfl, hB, hcu⟩ := RK.out.at j2 hlt2
            have hmL : L.getD j2 k0 ∈ L := by rw [List.getD_eq_getElem?_getD, List.getElem?_eq_getElem hlt2]; exact List.getElem_mem hlt2
            have hlF := HLF.out _ hmL
            have hlv := HTI.out.vk _ hmL
            have CUR := Lib.hid hB
            have hrl := hB.lt
            have HTW := Lib.hid (twL_step c k L j2 hlt2)
            have LDK : Hid (∀ W, Blk W gr 42 cur → (loadVar 42 ⟨gr, j2 * 37, none⟩).run Try.prog W = .ok (.agg (L.getD j2 k0).cs) W) := fun W h => load_key hlF h hcu
            generalize L.getD j2 k0 = l at *
            unfold tw1 at HTW
            have CL := Lib.hid (fun s hs W => CPL.out l hlF s hs W)
            have CDL := Lib.hid (fun W => CDG.out l hlF hlv W)
            have EQP : Hid (∀ s : Nat, s ≤ 1000 → ∀ W, (Op.equalIn 10000 51 (.agg #[.int .i64 (s : Int), .int .i64 ((plN c k s : Nat) : Int)]) (.agg #[.int .i64 (s : Int), .int .i64 ((plN c l s : Nat) : Int)])).run Try.prog W = .ok (decide (plN c k s = plN c l s)) W) := fun s hs W => eq_plS s _ _ (by omega) (PLT.out k s) (PLT.out l s) W
            have EQK : Hid (∀ W, (Op.equalIn 10000 42 (.agg l.cs) (.agg k.cs)).run Try.prog W = .ok (decide (l = k)) W) := fun W => eq_fl l k hlF HKF.out W
            have dgl : dgN c l < 65536 := dgN_lt c l hok
            have dgk : dgN c k < 65536 := dgN_lt c k hok
            have KIF := Lib.hid (fl_ik l hlF)
            clear hB hcu hmL hlv RK OW HTr HTI c0c
            go_wp2_with fail
            go_loopw [13, 14] (fun nb ss wr => ∃ s : Nat, s ≤ c.st.toNat ∧ ss = .int .i64 (s : Int) ∧ nb = .bool (nrB c k l s) ∧ Hid (Below V202.heap.size V202 wr)) (fun _ ss _ => c.st.toNat - (RowKit.intOf ss).toNat)
            case atStart => exact ⟨0, Nat.zero_le _, rfl, rfl, KL⟩
            case round =>
              obtain ⟨s, hs, rfl, rfl, KM⟩ := hrel
              clear KL
              have C5r := Lib.hid (C5.out.below KM.out C5.out.lt)
              have K10r := Lib.hid (K10.out.below KM.out K10.out.lt)
              have CURr := Lib.hid (CUR.out.below KM.out CUR.out.lt)
              have c5c := (C5r.out.cell 0).trans G0.out
              by_cases hlt3 : s < c.st.toNat
              · as_aux_lemma =>
                  have g1 : decide ((s : Int) < c.st) = true := decide_eq_true (by omega)
                  have w8 : IntKind.i64.wrap ((s : Int) + 1) = ((s + 1 : Nat) : Int) := by rw [IntKind.wrap_i64]; omega
                  have HNS := Lib.hid (nrB_succ c k l s)
                  have CKs := Lib.hid (CK.out s (by omega))
                  have CLs := Lib.hid (CL.out s (by omega))
                  have EQs := Lib.hid (EQP.out s (by omega))
                  clear CK CL EQP CDK CDL EQK HTW
                  generalize plN c k s = pk at *
                  generalize plN c l s = pl at *
                  go_upto_region 21 with fail
                  clear c5c
                  cases hnb : nrB c k l s with
                  | true =>
                    rw [hnb] at HNS
                    have HN2 : Hid (nrB c k l (s + 1) = true) := HNS.out.trans (Bool.true_or _)
                    clear HNS hnb CKs CLs EQs
                    as_aux_lemma =>
                      refine wp_region_held (S := (fun w' : World => Below (wr.heap.size) wr w')) (by kernel_rfl) ?_
                      change wpAnyH _ _ _ _ _ _ _ _ wr.drew
                      have hy : Below wr.heap.size wr wr.drew := (Below.refl _ _).drew
                      have hE0 : Below (wr.heap.size) wr wr.drew := (Below.refl _ _).drew
                      clear hy
                      generalize wr.drew = Y21x0 at hE0  ⊢
                      have E0 := Lib.hid hE0
                      clear hE0
                      refine tkA 0 (?_) ?_ E0.out ?_
                      rotate_left
                      · (intro w1 hS; go_simp; try with_reducible rfl)
                      simp only [Act.put, tS1, tS2, tS3]
                      refine tkA 1 (?_) ?_ E0.out ?_
                      rotate_left
                      · (intro w1 hS; go_simp; try with_reducible rfl)
                      simp only [Act.put, tS1, tS2, tS3]
                      refine tkN 2 E0.out ?_
                      simp only [Act.put, tS1, tS2, tS3]
                      refine tkN 3 E0.out ?_
                      simp only [Act.put, tS1, tS2, tS3]
                      refine tkN 4 E0.out ?_
                      simp only [Act.put, tS1, tS2, tS3]
                      refine tkN 6 E0.out ?_
                      simp only [Act.put, tS1, tS2, tS3]
                      refine tkN 7 E0.out ?_
                      simp only [Act.put, tS1, tS2, tS3]
                      refine tkN 8 E0.out ?_
                      simp only [Act.put, tS1, tS2, tS3]
                      refine tkN 9 E0.out ?_
                      simp only [Act.put, tS1, tS2, tS3]
                      refine tkN 10 E0.out ?_
                      simp only [Act.put, tS1, tS2, tS3]
                      refine tkN 11 E0.out ?_
                      simp only [Act.put, tS1, tS2, tS3]
                      refine tkN 5 E0.out ?_
                      simp only [Act.put, tS1, tS2, tS3]
                      refine tkN 12 E0.out ?_
                      simp only [Act.put, tS1, tS2, tS3]
                      refine tkN 13 E0.out ?_
                      simp only [Act.put, tS1, tS2, tS3]
                      refine tkA 14 (?_) ?_ E0.out ?_
                      rotate_left
                      · (intro w1 hS; go_simp; try with_reducible rfl)
                      simp only [Act.put, tS1, tS2, tS3]
                      refine tkA 15 (?_) ?_ E0.out ?_
                      rotate_left
                      · (intro w1 hS; go_simp; try with_reducible rfl)
                      simp only [Act.put, tS1, tS2, tS3]
                      refine wpAnyH_done (by kernel_rfl) ?_ _
                      have hy := E0.out
                      replace KM := Lib.hid (KM.out.trans (hy.mono KM.out.size))
                      replace C5r := Lib.hid (C5r.out.below hy C5r.out.lt)
                      replace K10r := Lib.hid (K10r.out.below hy K10r.out.lt)
                      replace CURr := Lib.hid (CURr.out.below hy CURr.out.lt)
                      clear hy E0
                      go_wp2
                      go_roundw
                      case rel => exact ⟨s + 1, hlt3, by go_num, by rw [HN2.out], KM⟩
                      case measure => simp [RowKit.intOf]; omega
                  | false =>
                    rw [hnb] at HNS
                    have HN2 : Hid (nrB c k l (s + 1) = decide (pk = pl)) := HNS.out.trans (Bool.false_or _)
                    clear HNS hnb
                    as_aux_lemma =>
                      refine wp_region_held (S := (fun w' : World => Below (wr.heap.size) wr w')) (by kernel_rfl) ?_
                      change wpAnyH _ _ _ _ _ _ _ _ wr.drew
                      have hy : Below wr.heap.size wr wr.drew := (Below.refl _ _).drew
                      have hE0 : Below (wr.heap.size) wr wr.drew := (Below.refl _ _).drew
                      clear hy
                      generalize wr.drew = Y21x0 at hE0  ⊢
                      have E0 := Lib.hid hE0
                      clear hE0
                      refine tkA 0 (?_) ?_ E0.out ?_
                      rotate_left
                      · (intro w1 hS; go_simp; try with_reducible rfl)
                      simp only [Act.put, tS1, tS2, tS3]
                      refine tkA 1 (?_) ?_ E0.out ?_
                      rotate_left
                      · (intro w1 hS; go_simp; try with_reducible rfl)
                      simp only [Act.put, tS1, tS2, tS3]
                      refine tkA 2 (.agg cc) ?_ E0.out ?_
                      · (intro w1 hS; have hW := hS; exact exec_load 29 (.tmp 5) rfl _ rfl _ (run_blk_load (P := Try.prog) 29 (g5) _ (C5r.out.below hW C5r.out.lt) Try.underlying29 rfl RZ2.out))
                      simp only [Act.put, tS1, tS2, tS3]
                      refine tkA 3 (.agg k.cs) ?_ E0.out ?_
                      · (intro w1 hS; have hW := hS; exact exec_load 42 (.tmp 10) rfl _ rfl _ (run_blk_load (P := Try.prog) 42 (g10) _ (K10r.out.below hW K10r.out.lt) Try.underlying42 rfl KZ.out))
                      simp only [Act.put, tS1, tS2, tS3]
                      refine tkA 4 (?_) ?_ E0.out ?_
                      rotate_left
                      · (intro w1 hS; go_simp; try with_reducible rfl)
                      simp only [Act.put, tS1, tS2, tS3]
                      refine tkA 6 (.agg cc) ?_ E0.out ?_
                      · (intro w1 hS; have hW := hS; exact exec_load 29 (.tmp 5) rfl _ rfl _ (run_blk_load (P := Try.prog) 29 (g5) _ (C5r.out.below hW C5r.out.lt) Try.underlying29 rfl RZ2.out))
                      simp only [Act.put, tS1, tS2, tS3]
                      refine tkA 7 (?_) ?_ E0.out ?_
                      rotate_left
                      · (intro w1 hS; go_simp; try with_reducible rfl)
                      simp only [Act.put, tS1, tS2, tS3]
                      refine tkA 8 (?_) ?_ E0.out ?_
                      rotate_left
                      · (intro w1 hS; go_simp; try with_reducible rfl)
                      simp only [Act.put, tS1, tS2, tS3]
                      refine tkA 9 (?_) ?_ E0.out ?_
                      rotate_left
                      · (intro w1 hS; go_simp; try with_reducible rfl)
                      simp only [Act.put, tS1, tS2, tS3]
                      refine tkA 10 (.agg l.cs) ?_ E0.out ?_
                      · (intro w1 hS; have hW := hS; exact exec_load 42 (.tmp 75) rfl _ rfl _ (LDK.out w1 (CURr.out.below hW CURr.out.lt)))
                      simp only [Act.put, tS1, tS2, tS3]
                      refine tkA 11 (?_) ?_ E0.out ?_
                      rotate_left
                      · (intro w1 hS; go_simp; try with_reducible rfl)
                      simp only [Act.put, tS1, tS2, tS3]
                      refine tkO 5 (fun KK hK => ?_)
                      go_simp
                      refine (CKs.out Y21x0).mono ?_
                      rintro e Y21x1 ⟨rfl, hy⟩
                      have E1 := Lib.hid (E0.out.trans (hy.mono E0.out.size))
                      have C1 := Lib.hid E1.out
                      clear hy E0
                      refine hK.out _ _ C1.out (fun _ => ?_)
                      clear hK KK
                      refine wpAnyH_mono (S' := (fun w' : World => Below Y21x1.heap.size Y21x1 w')) (fun w1 h => C1.out.trans (h.mono C1.out.size)) _ _ _ _ ?_
                      clear C1
                      try simp only [Act.put, tS1, tS2, tS3]
                      refine tkO 12 (fun KK hK => ?_)
                      go_simp
                      refine (CLs.out Y21x1).mono ?_
                      rintro e Y21x2 ⟨rfl, hy⟩
                      have E2 := Lib.hid (E1.out.trans (hy.mono E1.out.size))
                      have C2 := Lib.hid hy
                      clear hy E1
                      refine hK.out _ _ C2.out (fun _ => ?_)
                      clear hK KK
                      refine wpAnyH_mono (S' := (fun w' : World => Below Y21x2.heap.size Y21x2 w')) (fun w1 h => C2.out.trans (h.mono C2.out.size)) _ _ _ _ ?_
                      clear C2
                      try simp only [Act.put, tS1, tS2, tS3]
                      refine tkA 13 (.bool (decide (pk = pl))) ?_ (Below.refl _ _) ?_
                      · (intro w1 hS; have hW := E2.out.trans (hS.mono E2.out.size); exact exec_eql (.tmp 71) (.tmp 78) rfl _ _ rfl rfl _ (EQs.out _))
                      simp only [Act.put, tS1, tS2, tS3]
                      refine tkA 14 (?_) ?_ (Below.refl _ _) ?_
                      rotate_left
                      · (intro w1 hS; go_simp; try with_reducible rfl)
                      simp only [Act.put, tS1, tS2, tS3]
                      refine tkA 15 (?_) ?_ (Below.refl _ _) ?_
                      rotate_left
                      · (intro w1 hS; go_simp; try with_reducible rfl)
                      simp only [Act.put, tS1, tS2, tS3]
                      refine wpAnyH_done (by kernel_rfl) ?_ _
                      have hy := E2.out
                      replace KM := Lib.hid (KM.out.trans (hy.mono KM.out.size))
                      replace C5r := Lib.hid (C5r.out.below hy C5r.out.lt)
                      replace K10r := Lib.hid (K10r.out.below hy K10r.out.lt)
                      replace CURr := Lib.hid (CURr.out.below hy CURr.out.lt)
                      clear hy E2
                      go_wp2
                      go_roundw
                      case rel => exact ⟨s + 1, hlt3, by go_num, by rw [HN2.out], KM⟩
                      case measure => simp [RowKit.intOf]; omega
              · as_aux_lemma =>
                  obtain rfl : s = c.st.toNat := by omega
                  have g1 : decide (((c.st.toNat : Nat) : Int) < c.st) = false := decide_eq_false (by omega)
                  clear CK CL EQP PLT
                  generalize nrB c k l c.st.toNat = nb at *
                  generalize hta : twL c k (L.take j2) = ta at *
                  go_upto_region 22 with fail
                  clear c5c hta
                  cases ta with
                  | true =>
                    as_aux_lemma =>
                      clear CDK CDL EQK
                      refine wp_region_held (S := (fun w' : World => Below (wr.heap.size) wr w')) (by kernel_rfl) ?_
                      change wpAnyH _ _ _ _ _ _ _ _ wr.drew
                      have hy : Below wr.heap.size wr wr.drew := (Below.refl _ _).drew
                      have hE0 : Below (wr.heap.size) wr wr.drew := (Below.refl _ _).drew
                      clear hy
                      generalize wr.drew = Y22x0 at hE0  ⊢
                      have E0 := Lib.hid hE0
                      clear hE0
                      refine tkA 0 (?_) ?_ E0.out ?_
                      rotate_left
                      · (intro w1 hS; go_simp; try with_reducible rfl)
                      simp only [Act.put, tS1, tS2, tS3]
                      refine tkA 1 (?_) ?_ E0.out ?_
                      rotate_left
                      · (intro w1 hS; go_simp; try with_reducible rfl)
                      simp only [Act.put, tS1, tS2, tS3]
                      refine tkN 2 E0.out ?_
                      simp only [Act.put, tS1, tS2, tS3]
                      refine tkN 3 E0.out ?_
                      simp only [Act.put, tS1, tS2, tS3]
                      refine tkN 4 E0.out ?_
                      simp only [Act.put, tS1, tS2, tS3]
                      refine tkN 5 E0.out ?_
                      simp only [Act.put, tS1, tS2, tS3]
                      refine tkN 6 E0.out ?_
                      simp only [Act.put, tS1, tS2, tS3]
                      refine tkN 7 E0.out ?_
                      simp only [Act.put, tS1, tS2, tS3]
                      refine tkN 8 E0.out ?_
                      simp only [Act.put, tS1, tS2, tS3]
                      refine tkN 9 E0.out ?_
                      simp only [Act.put, tS1, tS2, tS3]
                      refine tkN 10 E0.out ?_
                      simp only [Act.put, tS1, tS2, tS3]
                      refine tkN 11 E0.out ?_
                      simp only [Act.put, tS1, tS2, tS3]
                      refine tkN 12 E0.out ?_
                      simp only [Act.put, tS1, tS2, tS3]
                      refine tkN 13 E0.out ?_
                      simp only [Act.put, tS1, tS2, tS3]
                      refine tkN 15 E0.out ?_
                      simp only [Act.put, tS1, tS2, tS3]
                      refine tkN 16 E0.out ?_
                      simp only [Act.put, tS1, tS2, tS3]
                      refine tkN 17 E0.out ?_
                      simp only [Act.put, tS1, tS2, tS3]
                      refine tkN 18 E0.out ?_
                      simp only [Act.put, tS1, tS2, tS3]
                      refine tkN 19 E0.out ?_
                      simp only [Act.put, tS1, tS2, tS3]
                      refine tkN 14 E0.out ?_
                      simp only [Act.put, tS1, tS2, tS3]
                      refine tkN 20 E0.out ?_
                      simp only [Act.put, tS1, tS2, tS3]
                      refine tkN 21 E0.out ?_
                      simp only [Act.put, tS1, tS2, tS3]
                      refine tkN 22 E0.out ?_
                      simp only [Act.put, tS1, tS2, tS3]
                      refine tkA 23 (?_) ?_ E0.out ?_
                      rotate_left
                      · (intro w1 hS; go_simp; try with_reducible rfl)
                      simp only [Act.put, tS1, tS2, tS3]
                      refine tkA 24 (?_) ?_ E0.out ?_
                      rotate_left
                      · (intro w1 hS; go_simp; try with_reducible rfl)
                      simp only [Act.put, tS1, tS2, tS3]
                      refine wpAnyH_done (by kernel_rfl) ?_ _
                      have hy := E0.out
                      replace KM := Lib.hid (KM.out.trans (hy.mono KM.out.size))
                      replace C5r := Lib.hid (C5r.out.below hy C5r.out.lt)
                      replace K10r := Lib.hid (K10r.out.below hy K10r.out.lt)
                      replace CURr := Lib.hid (CURr.out.below hy CURr.out.lt)
                      clear hy E0
                      go_wp2
                      go_roundw
                      case rel => exact ⟨j2 + 1, hlt2, by go_num, by rw [HTW.out]; rfl, KM⟩
                      case measure => simp [RowKit.intOf]; omega
                  | false =>
                    by_cases hlk : l = k
                    · skip
                      as_aux_lemma =>
                        have EQ2 := EQK
                        rw [decide_eq_true hlk] at EQ2 HTW
                        clear CDK CDL EQK
                        refine wp_region_held (S := (fun w' : World => Below (wr.heap.size) wr w')) (by kernel_rfl) ?_
                        change wpAnyH _ _ _ _ _ _ _ _ wr.drew
                        have hy : Below wr.heap.size wr wr.drew := (Below.refl _ _).drew
                        have hE0 : Below (wr.heap.size) wr wr.drew := (Below.refl _ _).drew
                        clear hy
                        generalize wr.drew = Y22x0 at hE0  ⊢
                        have E0 := Lib.hid hE0
                        clear hE0
                        refine tkA 0 (?_) ?_ E0.out ?_
                        rotate_left
                        · (intro w1 hS; go_simp; try with_reducible rfl)
                        simp only [Act.put, tS1, tS2, tS3]
                        refine tkA 1 (?_) ?_ E0.out ?_
                        rotate_left
                        · (intro w1 hS; go_simp; try with_reducible rfl)
                        simp only [Act.put, tS1, tS2, tS3]
                        refine tkA 2 (?_) ?_ E0.out ?_
                        rotate_left
                        · (intro w1 hS; go_simp; try with_reducible rfl)
                        simp only [Act.put, tS1, tS2, tS3]
                        refine tkA 3 (?_) ?_ E0.out ?_
                        rotate_left
                        · (intro w1 hS; go_simp; try with_reducible rfl)
                        simp only [Act.put, tS1, tS2, tS3]
                        refine tkA 4 (?_) ?_ E0.out ?_
                        rotate_left
                        · (intro w1 hS; go_simp; try with_reducible rfl)
                        simp only [Act.put, tS1, tS2, tS3]
                        refine tkA 5 (.agg l.cs) ?_ E0.out ?_
                        · (intro w1 hS; have hW := hS; exact exec_load 42 (.tmp 85) rfl _ rfl _ (LDK.out w1 (CURr.out.below hW CURr.out.lt)))
                        simp only [Act.put, tS1, tS2, tS3]
                        refine tkA 6 (.agg k.cs) ?_ E0.out ?_
                        · (intro w1 hS; have hW := hS; exact exec_load 42 (.tmp 10) rfl _ rfl _ (run_blk_load (P := Try.prog) 42 (g10) _ (K10r.out.below hW K10r.out.lt) Try.underlying42 rfl KZ.out))
                        simp only [Act.put, tS1, tS2, tS3]
                        refine tkA 7 (.bool (false)) ?_ E0.out ?_
                        · (intro w1 hS; have hW := hS; exact exec_neq42 (.tmp 86) (.tmp 87) rfl _ _ rfl rfl _ (EQ2.out _))
                        simp only [Act.put, tS1, tS2, tS3]
                        refine tkA 8 (?_) ?_ E0.out ?_
                        rotate_left
                        · (intro w1 hS; go_simp; try with_reducible rfl)
                        simp only [Act.put, tS1, tS2, tS3]
                        refine tkN 9 E0.out ?_
                        simp only [Act.put, tS1, tS2, tS3]
                        refine tkA 10 (?_) ?_ E0.out ?_
                        rotate_left
                        · (intro w1 hS; go_simp; try with_reducible rfl)
                        simp only [Act.put, tS1, tS2, tS3]
                        refine tkA 11 (?_) ?_ E0.out ?_
                        rotate_left
                        · (intro w1 hS; go_simp; try with_reducible rfl)
                        simp only [Act.put, tS1, tS2, tS3]
                        refine tkN 12 E0.out ?_
                        simp only [Act.put, tS1, tS2, tS3]
                        refine tkN 13 E0.out ?_
                        simp only [Act.put, tS1, tS2, tS3]
                        refine tkN 15 E0.out ?_
                        simp only [Act.put, tS1, tS2, tS3]
                        refine tkN 16 E0.out ?_
                        simp only [Act.put, tS1, tS2, tS3]
                        refine tkN 17 E0.out ?_
                        simp only [Act.put, tS1, tS2, tS3]
                        refine tkN 18 E0.out ?_
                        simp only [Act.put, tS1, tS2, tS3]
                        refine tkN 19 E0.out ?_
                        simp only [Act.put, tS1, tS2, tS3]
                        refine tkN 14 E0.out ?_
                        simp only [Act.put, tS1, tS2, tS3]
                        refine tkN 20 E0.out ?_
                        simp only [Act.put, tS1, tS2, tS3]
                        refine tkN 21 E0.out ?_
                        simp only [Act.put, tS1, tS2, tS3]
                        refine tkA 22 (?_) ?_ E0.out ?_
                        rotate_left
                        · (intro w1 hS; go_simp; try with_reducible rfl)
                        simp only [Act.put, tS1, tS2, tS3]
                        refine tkA 23 (?_) ?_ E0.out ?_
                        rotate_left
                        · (intro w1 hS; go_simp; try with_reducible rfl)
                        simp only [Act.put, tS1, tS2, tS3]
                        refine tkA 24 (?_) ?_ E0.out ?_
                        rotate_left
                        · (intro w1 hS; go_simp; try with_reducible rfl)
                        simp only [Act.put, tS1, tS2, tS3]
                        refine wpAnyH_done (by kernel_rfl) ?_ _
                        have hy := E0.out
                        replace KM := Lib.hid (KM.out.trans (hy.mono KM.out.size))
                        replace C5r := Lib.hid (C5r.out.below hy C5r.out.lt)
                        replace K10r := Lib.hid (K10r.out.below hy K10r.out.lt)
                        replace CURr := Lib.hid (CURr.out.below hy CURr.out.lt)
                        clear hy E0
                        go_wp2
                        go_roundw
                        case rel => exact ⟨j2 + 1, hlt2, by go_num, by rw [HTW.out]; rfl, KM⟩
                        case measure => simp [RowKit.intOf]; omega
                    have EQ2 := EQK
                    rw [decide_eq_false hlk] at EQ2 HTW
                    clear EQK
                    cases nb with
                    | false =>
                      as_aux_lemma =>
                        clear CDK CDL
                        refine wp_region_held (S := (fun w' : World => Below (wr.heap.size) wr w')) (by kernel_rfl) ?_
                        change wpAnyH _ _ _ _ _ _ _ _ wr.drew
                        have hy : Below wr.heap.size wr wr.drew := (Below.refl _ _).drew
                        have hE0 : Below (wr.heap.size) wr wr.drew := (Below.refl _ _).drew
                        clear hy
                        generalize wr.drew = Y22x0 at hE0  ⊢
                        have E0 := Lib.hid hE0
                        clear hE0
                        refine tkA 0 (?_) ?_ E0.out ?_
                        rotate_left
                        · (intro w1 hS; go_simp; try with_reducible rfl)
                        simp only [Act.put, tS1, tS2, tS3]
                        refine tkA 1 (?_) ?_ E0.out ?_
                        rotate_left
                        · (intro w1 hS; go_simp; try with_reducible rfl)
                        simp only [Act.put, tS1, tS2, tS3]
                        refine tkA 2 (?_) ?_ E0.out ?_
                        rotate_left
                        · (intro w1 hS; go_simp; try with_reducible rfl)
                        simp only [Act.put, tS1, tS2, tS3]
                        refine tkA 3 (?_) ?_ E0.out ?_
                        rotate_left
                        · (intro w1 hS; go_simp; try with_reducible rfl)
                        simp only [Act.put, tS1, tS2, tS3]
                        refine tkA 4 (?_) ?_ E0.out ?_
                        rotate_left
                        · (intro w1 hS; go_simp; try with_reducible rfl)
                        simp only [Act.put, tS1, tS2, tS3]
                        refine tkA 5 (.agg l.cs) ?_ E0.out ?_
                        · (intro w1 hS; have hW := hS; exact exec_load 42 (.tmp 85) rfl _ rfl _ (LDK.out w1 (CURr.out.below hW CURr.out.lt)))
                        simp only [Act.put, tS1, tS2, tS3]
                        refine tkA 6 (.agg k.cs) ?_ E0.out ?_
                        · (intro w1 hS; have hW := hS; exact exec_load 42 (.tmp 10) rfl _ rfl _ (run_blk_load (P := Try.prog) 42 (g10) _ (K10r.out.below hW K10r.out.lt) Try.underlying42 rfl KZ.out))
                        simp only [Act.put, tS1, tS2, tS3]
                        refine tkA 7 (.bool (true)) ?_ E0.out ?_
                        · (intro w1 hS; have hW := hS; exact exec_neq42 (.tmp 86) (.tmp 87) rfl _ _ rfl rfl _ (EQ2.out _))
                        simp only [Act.put, tS1, tS2, tS3]
                        refine tkA 8 (?_) ?_ E0.out ?_
                        rotate_left
                        · (intro w1 hS; go_simp; try with_reducible rfl)
                        simp only [Act.put, tS1, tS2, tS3]
                        refine tkA 9 (?_) ?_ E0.out ?_
                        rotate_left
                        · (intro w1 hS; go_simp; try with_reducible rfl)
                        simp only [Act.put, tS1, tS2, tS3]
                        refine tkA 10 (?_) ?_ E0.out ?_
                        rotate_left
                        · (intro w1 hS; go_simp; try with_reducible rfl)
                        simp only [Act.put, tS1, tS2, tS3]
                        refine tkA 11 (?_) ?_ E0.out ?_
                        rotate_left
                        · (intro w1 hS; go_simp; try with_reducible rfl)
                        simp only [Act.put, tS1, tS2, tS3]
                        refine tkN 12 E0.out ?_
                        simp only [Act.put, tS1, tS2, tS3]
                        refine tkN 13 E0.out ?_
                        simp only [Act.put, tS1, tS2, tS3]
                        refine tkN 15 E0.out ?_
                        simp only [Act.put, tS1, tS2, tS3]
                        refine tkN 16 E0.out ?_
                        simp only [Act.put, tS1, tS2, tS3]
                        refine tkN 17 E0.out ?_
                        simp only [Act.put, tS1, tS2, tS3]
                        refine tkN 18 E0.out ?_
                        simp only [Act.put, tS1, tS2, tS3]
                        refine tkN 19 E0.out ?_
                        simp only [Act.put, tS1, tS2, tS3]
                        refine tkN 14 E0.out ?_
                        simp only [Act.put, tS1, tS2, tS3]
                        refine tkN 20 E0.out ?_
                        simp only [Act.put, tS1, tS2, tS3]
                        refine tkN 21 E0.out ?_
                        simp only [Act.put, tS1, tS2, tS3]
                        refine tkA 22 (?_) ?_ E0.out ?_
                        rotate_left
                        · (intro w1 hS; go_simp; try with_reducible rfl)
                        simp only [Act.put, tS1, tS2, tS3]
                        refine tkA 23 (?_) ?_ E0.out ?_
                        rotate_left
                        · (intro w1 hS; go_simp; try with_reducible rfl)
                        simp only [Act.put, tS1, tS2, tS3]
                        refine tkA 24 (?_) ?_ E0.out ?_
                        rotate_left
                        · (intro w1 hS; go_simp; try with_reducible rfl)
                        simp only [Act.put, tS1, tS2, tS3]
                        refine wpAnyH_done (by kernel_rfl) ?_ _
                        have hy := E0.out
                        replace KM := Lib.hid (KM.out.trans (hy.mono KM.out.size))
                        replace C5r := Lib.hid (C5r.out.below hy C5r.out.lt)
                        replace K10r := Lib.hid (K10r.out.below hy K10r.out.lt)
                        replace CURr := Lib.hid (CURr.out.below hy CURr.out.lt)
                        clear hy E0
                        go_wp2
                        go_roundw
                        case rel => exact ⟨j2 + 1, hlt2, by go_num, by rw [HTW.out]; rfl, KM⟩
                        case measure => simp [RowKit.intOf]; omega
                    | true =>
                      as_aux_lemma =>
                        generalize dgN c k = dk at *
                        generalize dgN c l = dl at *
                        have q1 : (((dk : Nat) : Int) == ((dl : Nat) : Int)) = decide (dk = dl) := by by_cases h : dk = dl <;> simp [h]; omega
                        have q2 : (dk == dl) = decide (dk = dl) := rfl
                        refine wp_region_held (S := (fun w' : World => Below (wr.heap.size) wr w')) (by kernel_rfl) ?_
                        change wpAnyH _ _ _ _ _ _ _ _ wr.drew
                        have hy : Below wr.heap.size wr wr.drew := (Below.refl _ _).drew
                        have hE0 : Below (wr.heap.size) wr wr.drew := (Below.refl _ _).drew
                        clear hy
                        generalize wr.drew = Y22x0 at hE0  ⊢
                        have E0 := Lib.hid hE0
                        clear hE0
                        refine tkA 0 (?_) ?_ E0.out ?_
                        rotate_left
                        · (intro w1 hS; go_simp; try with_reducible rfl)
                        simp only [Act.put, tS1, tS2, tS3]
                        refine tkA 1 (?_) ?_ E0.out ?_
                        rotate_left
                        · (intro w1 hS; go_simp; try with_reducible rfl)
                        simp only [Act.put, tS1, tS2, tS3]
                        refine tkA 2 (?_) ?_ E0.out ?_
                        rotate_left
                        · (intro w1 hS; go_simp; try with_reducible rfl)
                        simp only [Act.put, tS1, tS2, tS3]
                        refine tkA 3 (?_) ?_ E0.out ?_
                        rotate_left
                        · (intro w1 hS; go_simp; try with_reducible rfl)
                        simp only [Act.put, tS1, tS2, tS3]
                        refine tkA 4 (?_) ?_ E0.out ?_
                        rotate_left
                        · (intro w1 hS; go_simp; try with_reducible rfl)
                        simp only [Act.put, tS1, tS2, tS3]
                        refine tkA 5 (.agg l.cs) ?_ E0.out ?_
                        · (intro w1 hS; have hW := hS; exact exec_load 42 (.tmp 85) rfl _ rfl _ (LDK.out w1 (CURr.out.below hW CURr.out.lt)))
                        simp only [Act.put, tS1, tS2, tS3]
                        refine tkA 6 (.agg k.cs) ?_ E0.out ?_
                        · (intro w1 hS; have hW := hS; exact exec_load 42 (.tmp 10) rfl _ rfl _ (run_blk_load (P := Try.prog) 42 (g10) _ (K10r.out.below hW K10r.out.lt) Try.underlying42 rfl KZ.out))
                        simp only [Act.put, tS1, tS2, tS3]
                        refine tkA 7 (.bool (true)) ?_ E0.out ?_
                        · (intro w1 hS; have hW := hS; exact exec_neq42 (.tmp 86) (.tmp 87) rfl _ _ rfl rfl _ (EQ2.out _))
                        simp only [Act.put, tS1, tS2, tS3]
                        refine tkA 8 (?_) ?_ E0.out ?_
                        rotate_left
                        · (intro w1 hS; go_simp; try with_reducible rfl)
                        simp only [Act.put, tS1, tS2, tS3]
                        refine tkA 9 (?_) ?_ E0.out ?_
                        rotate_left
                        · (intro w1 hS; go_simp; try with_reducible rfl)
                        simp only [Act.put, tS1, tS2, tS3]
                        refine tkA 10 (?_) ?_ E0.out ?_
                        rotate_left
                        · (intro w1 hS; go_simp; try with_reducible rfl)
                        simp only [Act.put, tS1, tS2, tS3]
                        refine tkA 11 (?_) ?_ E0.out ?_
                        rotate_left
                        · (intro w1 hS; go_simp; try with_reducible rfl)
                        simp only [Act.put, tS1, tS2, tS3]
                        refine tkA 12 (.agg cc) ?_ E0.out ?_
                        · (intro w1 hS; have hW := hS; exact exec_load 29 (.tmp 5) rfl _ rfl _ (run_blk_load (P := Try.prog) 29 (g5) _ (C5r.out.below hW C5r.out.lt) Try.underlying29 rfl RZ2.out))
                        simp only [Act.put, tS1, tS2, tS3]
                        refine tkA 13 (.agg k.cs) ?_ E0.out ?_
                        · (intro w1 hS; have hW := hS; exact exec_load 42 (.tmp 10) rfl _ rfl _ (run_blk_load (P := Try.prog) 42 (g10) _ (K10r.out.below hW K10r.out.lt) Try.underlying42 rfl KZ.out))
                        simp only [Act.put, tS1, tS2, tS3]
                        refine tkA 15 (.agg cc) ?_ E0.out ?_
                        · (intro w1 hS; have hW := hS; exact exec_load 29 (.tmp 5) rfl _ rfl _ (run_blk_load (P := Try.prog) 29 (g5) _ (C5r.out.below hW C5r.out.lt) Try.underlying29 rfl RZ2.out))
                        simp only [Act.put, tS1, tS2, tS3]
                        refine tkA 16 (?_) ?_ E0.out ?_
                        rotate_left
                        · (intro w1 hS; go_simp; try with_reducible rfl)
                        simp only [Act.put, tS1, tS2, tS3]
                        refine tkA 17 (?_) ?_ E0.out ?_
                        rotate_left
                        · (intro w1 hS; go_simp; try with_reducible rfl)
                        simp only [Act.put, tS1, tS2, tS3]
                        refine tkA 18 (?_) ?_ E0.out ?_
                        rotate_left
                        · (intro w1 hS; go_simp; try with_reducible rfl)
                        simp only [Act.put, tS1, tS2, tS3]
                        refine tkA 19 (.agg l.cs) ?_ E0.out ?_
                        · (intro w1 hS; have hW := hS; exact exec_load 42 (.tmp 99) rfl _ rfl _ (LDK.out w1 (CURr.out.below hW CURr.out.lt)))
                        simp only [Act.put, tS1, tS2, tS3]
                        refine tkO 14 (fun KK hK => ?_)
                        go_simp
                        refine (CDK.out Y22x0).mono ?_
                        rintro e Y22x1 ⟨rfl, hy⟩
                        have E1 := Lib.hid (E0.out.trans (hy.mono E0.out.size))
                        have C1 := Lib.hid E1.out
                        clear hy E0
                        refine hK.out _ _ C1.out (fun _ => ?_)
                        clear hK KK
                        refine wpAnyH_mono (S' := (fun w' : World => Below Y22x1.heap.size Y22x1 w')) (fun w1 h => C1.out.trans (h.mono C1.out.size)) _ _ _ _ ?_
                        clear C1
                        try simp only [Act.put, tS1, tS2, tS3]
                        refine tkO 20 (fun KK hK => ?_)
                        go_simp
                        refine (CDL.out Y22x1).mono ?_
                        rintro e Y22x2 ⟨rfl, hy⟩
                        have E2 := Lib.hid (E1.out.trans (hy.mono E1.out.size))
                        have C2 := Lib.hid hy
                        clear hy E1
                        refine hK.out _ _ C2.out (fun _ => ?_)
                        clear hK KK
                        refine wpAnyH_mono (S' := (fun w' : World => Below Y22x2.heap.size Y22x2 w')) (fun w1 h => C2.out.trans (h.mono C2.out.size)) _ _ _ _ ?_
                        clear C2
                        try simp only [Act.put, tS1, tS2, tS3]
                        refine tkA 21 (?_) ?_ (Below.refl _ _) ?_
                        rotate_left
                        · (intro w1 hS; go_simp; try with_reducible rfl)
                        simp only [Act.put, tS1, tS2, tS3]
                        refine tkA 22 (?_) ?_ (Below.refl _ _) ?_
                        rotate_left
                        · (intro w1 hS; go_simp; try with_reducible rfl)
                        simp only [Act.put, tS1, tS2, tS3]
                        refine tkA 23 (?_) ?_ (Below.refl _ _) ?_
                        rotate_left
                        · (intro w1 hS; go_simp; try with_reducible rfl)
                        simp only [Act.put, tS1, tS2, tS3]
                        refine tkA 24 (?_) ?_ (Below.refl _ _) ?_
                        rotate_left
                        · (intro w1 hS; go_simp; try with_reducible rfl)
                        simp only [Act.put, tS1, tS2, tS3]
                        refine wpAnyH_done (by kernel_rfl) ?_ _
                        have hy := E2.out
                        replace KM := Lib.hid (KM.out.trans (hy.mono KM.out.size))
                        replace C5r := Lib.hid (C5r.out.below hy C5r.out.lt)
                        replace K10r := Lib.hid (K10r.out.below hy K10r.out.lt)
                        replace CURr := Lib.hid (CURr.out.below hy CURr.out.lt)
                        clear hy E2
                        go_wp2
                        go_roundw
                        case rel => exact ⟨j2 + 1, hlt2, by go_num, by rw [HTW.out]; first | rfl | simp, KM⟩
                        case measure => simp [RowKit.intOf]; omega
        · as_aux_lemma =>
            obtain rfl : j2 = L.length := by omega
            have f1 : decide ((L.length : Int) < (L.length : Int)) = false := decide_eq_false (by omega)
            have f2 : decide (L.length < L.length) = false := decide_eq_false (by omega)
            have hy := KL.out
            replace OW := Lib.hid (own_keep OW.out hy)
            replace HTr := Lib.hid (HTr.out.below hy)
            replace Kr := Lib.hid (Kr.out.trans (hy.mono Kr.out.size))
            replace C5 := Lib.hid (C5.out.below hy C5.out.lt)
            replace K10 := Lib.hid (K10.out.below hy K10.out.lt)
            clear hy KL RK CPL CK
            rw [List.take_length, ← HTB.out]
            have h7l := K10.out.lt
            have KX : Hid ((tkC tw).size = ZK.size) := by show _ = _; rw [hZKS]; exact tkC_size tw (fun x h => (HTK.out x h).2.2.2)
            have KXI : Hid ((Try.prog.info? 42).map (·.size) = some (tkC tw).size) := by
              cases tw with
              | none => exact fl_ik k0 k0_fit
              | some x => exact fl_ik x (HTK.out x rfl).2.2.2
            have KXA := Lib.hid (tkC_all tw)
            have L4 : (loadVar 42 ⟨g10, 0, none⟩).run Try.prog wr = .ok (.agg k.cs) wr := run_blk_load (P := Try.prog) 42 (g10) _ K10.out Try.underlying42 rfl KZ.out
            replace L4 := Lib.hid L4
            go_wp2_with (((with_reducible refine wpList_load_want (op := ⟨some 107, .load 42 (.tmp 10), _, _, _, _⟩) ?wg4 42 (.tmp 10) ?wo4 ⟨g10, 0, none⟩ ?wx4 (.agg k.cs) L4.out ?_); (case wg4 => rfl); (case wo4 => rfl); (case wx4 => rfl)))
            clear L4
            refine (CT1.out wr HTr.out).mono ?_
            rintro e V701 ⟨rfl, hy⟩
            replace OW := Lib.hid (own_keep OW.out hy)
            replace HTr := Lib.hid (HTr.out.below hy)
            replace Kr := Lib.hid (Kr.out.trans (hy.mono Kr.out.size))
            replace C5 := Lib.hid (C5.out.below hy C5.out.lt)
            replace K10 := Lib.hid (K10.out.below hy K10.out.lt)
            have h7t := HTr.out.lt
            have h7k := K10.out.lt
            have h75 := C5.out.lt
            clear hy
            go_wp2_with (((with_reducible refine wpList_blk_store (op := ⟨none, .store 42 (.tmp 15) (.tmp 109), _, _, _, _⟩) ?sg5 42 (.tmp 15) (.tmp 109) ?so5 (V701.heap.size) (tkC tw) ?sx5 ?sy5 (Blk.new V701 42 ZK) KX.out KXI.out KXA.out ?_); (case sg5 => rfl); (case so5 => rfl); (case sx5 => rfl); (case sy5 => rfl)))
            have qC5X15 : g5 < V701.heap.size := C5.out.lt
            have qK10X15 : g10 < V701.heap.size := K10.out.lt
            intro V702 hA hF hB
            have hy := ((Below.refl V701.heap.size V701).alloc (Nat.le_refl _) (.cells ZK 42)).trans (hB _ (Nat.le_refl _))
            replace OW := Lib.hid (own_keep OW.out hy)
            replace HTr := Lib.hid (HTr.out.below hy)
            replace Kr := Lib.hid (Kr.out.trans (hy.mono Kr.out.size))
            replace C5 := Lib.hid (C5.out.below hy C5.out.lt)
            replace K10 := Lib.hid (K10.out.below hy K10.out.lt)
            have X15 := Lib.hid hA
            clear hA hF hB hy
            have L6 : (loadVar 42 ⟨g10, 0, none⟩).run Try.prog V702 = .ok (.agg k.cs) V702 := run_blk_load (P := Try.prog) 42 (g10) _ K10.out Try.underlying42 rfl KZ.out
            replace L6 := Lib.hid L6
            go_wp2_with (((with_reducible refine wpList_load_want (op := ⟨some 113, .load 42 (.tmp 10), _, _, _, _⟩) ?wg6 42 (.tmp 10) ?wo6 ⟨g10, 0, none⟩ ?wx6 (.agg k.cs) L6.out ?_); (case wg6 => rfl); (case wo6 => rfl); (case wx6 => rfl)))
            clear L6
            refine (CT2.out V702 HTr.out).mono ?_
            rintro e V703 ⟨rfl, hy⟩
            replace OW := Lib.hid (own_keep OW.out hy)
            replace HTr := Lib.hid (HTr.out.below hy)
            replace Kr := Lib.hid (Kr.out.trans (hy.mono Kr.out.size))
            replace C5 := Lib.hid (C5.out.below hy C5.out.lt)
            replace K10 := Lib.hid (K10.out.below hy K10.out.lt)
            replace X15 := Lib.hid (X15.out.below hy X15.out.lt)
            have h8t := HTr.out.lt
            have h8x := X15.out.lt
            clear hy
            go_wp2_with (((with_reducible refine wpList_blk_store (op := ⟨none, .store 42 (.tmp 17) (.tmp 115), _, _, _, _⟩) ?sg7 42 (.tmp 17) (.tmp 115) ?so7 (V703.heap.size) kt ?sx7 ?sy7 (Blk.new V703 42 ZK) TY.out TZ.out TA.out ?_); (case sg7 => rfl); (case so7 => rfl); (case sx7 => rfl); (case sy7 => rfl)))
            have qC5X17 : g5 < V703.heap.size := C5.out.lt
            have qK10X17 : g10 < V703.heap.size := K10.out.lt
            have qX15X17 : V701.heap.size < V703.heap.size := X15.out.lt
            intro V704 hA hF hB
            have hy := ((Below.refl V703.heap.size V703).alloc (Nat.le_refl _) (.cells ZK 42)).trans (hB _ (Nat.le_refl _))
            replace OW := Lib.hid (own_keep OW.out hy)
            replace HTr := Lib.hid (HTr.out.below hy)
            replace Kr := Lib.hid (Kr.out.trans (hy.mono Kr.out.size))
            replace C5 := Lib.hid (C5.out.below hy C5.out.lt)
            replace K10 := Lib.hid (K10.out.below hy K10.out.lt)
            replace X15 := Lib.hid (X15.out.below hy X15.out.lt)
            have X17 := Lib.hid hA
            clear hA hF hB hy
            have L8 : (loadVar 42 ⟨g10, 0, none⟩).run Try.prog V704 = .ok (.agg k.cs) V704 := run_blk_load (P := Try.prog) 42 (g10) _ K10.out Try.underlying42 rfl KZ.out
            replace L8 := Lib.hid L8
            go_wp2_with (((with_reducible refine wpList_load_want (op := ⟨some 119, .load 42 (.tmp 10), _, _, _, _⟩) ?wg8 42 (.tmp 10) ?wo8 ⟨g10, 0, none⟩ ?wx8 (.agg k.cs) L8.out ?_); (case wg8 => rfl); (case wo8 => rfl); (case wx8 => rfl)))
            clear L8
            have h9x := X17.out.lt
            refine (CI1.out V704 HTr.out).mono ?_
            rintro e V705 ⟨mv, rfl, hg, ha, -⟩
            replace Kr := Lib.hid (Kr.out.trans (ha.below (by omega) Kr.out.size))
            replace C5 := Lib.hid (ha.blk C5.out (by omega))
            replace OW := Lib.hid (own_of_same OW.out fun g hg => ha.block g (own_lt OW.out hg).2.1 (.inr (by have := (own_lt OW.out hg).1; omega)))
            replace K10 := Lib.hid (ha.blk K10.out (by omega))
            replace X15 := Lib.hid (ha.blk X15.out (by omega))
            replace X17 := Lib.hid (ha.blk X17.out (by omega))
            replace HTr := Lib.hid hg
            have hav := ha.size
            clear hg ha
            go_upto_region 26 with fail
            clear CT1 CT2 CI1
            have hbr2 : b0 ≤ V705.heap.size := by have := K10.out.lt; omega
            cases tw with
            | none =>
              as_aux_lemma =>
                clear HT4 HTK CDK CDG KX KXI KXA HTB
                refine wp_region_held (S := (fun w' : World => Below (V705.heap.size) V705 w')) (by kernel_rfl) ?_
                change wpAnyH _ _ _ _ _ _ _ _ V705.drew
                have hy : Below V705.heap.size V705 V705.drew := (Below.refl _ _).drew
                have hE0 : Below (V705.heap.size) V705 V705.drew := (Below.refl _ _).drew
                clear hy
                generalize V705.drew = Y26x0 at hE0  ⊢
                have E0 := Lib.hid hE0
                clear hE0
                refine tkA 0 (?_) ?_ E0.out ?_
                rotate_left
                · (intro w1 hS; go_simp; try with_reducible rfl)
                simp only [Act.put, tS1, tS2, tS3]
                refine tkA 1 (?_) ?_ E0.out ?_
                rotate_left
                · (intro w1 hS; go_simp; try with_reducible rfl)
                simp only [Act.put, tS1, tS2, tS3]
                refine tkA 2 (?_) ?_ E0.out ?_
                rotate_left
                · (intro w1 hS; go_simp; try with_reducible rfl)
                simp only [Act.put, tS1, tS2, tS3]
                refine tkA 3 (?_) ?_ E0.out ?_
                rotate_left
                · (intro w1 hS; go_simp; try with_reducible rfl)
                simp only [Act.put, tS1, tS2, tS3]
                refine tkA 4 (?_) ?_ E0.out ?_
                rotate_left
                · (intro w1 hS; go_simp; try with_reducible rfl)
                simp only [Act.put, tS1, tS2, tS3]
                refine tkA 5 (?_) ?_ E0.out ?_
                rotate_left
                · (intro w1 hS; go_simp; try with_reducible rfl)
                simp only [Act.put, tS1, tS2, tS3]
                refine tkA 6 (?_) ?_ E0.out ?_
                rotate_left
                · (intro w1 hS; go_simp; try with_reducible rfl)
                simp only [Act.put, tS1, tS2, tS3]
                refine tkA 7 (?_) ?_ E0.out ?_
                rotate_left
                · (intro w1 hS; go_simp; try with_reducible rfl)
                simp only [Act.put, tS1, tS2, tS3]
                refine tkA 8 (?_) ?_ E0.out ?_
                rotate_left
                · (intro w1 hS; go_simp; try with_reducible rfl)
                simp only [Act.put, tS1, tS2, tS3]
                refine tkN 9 E0.out ?_
                simp only [Act.put, tS1, tS2, tS3]
                refine tkN 10 E0.out ?_
                simp only [Act.put, tS1, tS2, tS3]
                refine tkN 12 E0.out ?_
                simp only [Act.put, tS1, tS2, tS3]
                refine tkN 13 E0.out ?_
                simp only [Act.put, tS1, tS2, tS3]
                refine tkN 11 E0.out ?_
                simp only [Act.put, tS1, tS2, tS3]
                refine tkN 14 E0.out ?_
                simp only [Act.put, tS1, tS2, tS3]
                refine tkN 15 E0.out ?_
                simp only [Act.put, tS1, tS2, tS3]
                refine tkN 16 E0.out ?_
                simp only [Act.put, tS1, tS2, tS3]
                refine tkN 17 E0.out ?_
                simp only [Act.put, tS1, tS2, tS3]
                refine tkN 18 E0.out ?_
                simp only [Act.put, tS1, tS2, tS3]
                refine tkN 19 E0.out ?_
                simp only [Act.put, tS1, tS2, tS3]
                refine tkN 20 E0.out ?_
                simp only [Act.put, tS1, tS2, tS3]
                refine tkA 21 (?_) ?_ E0.out ?_
                rotate_left
                · (intro w1 hS; go_simp; try with_reducible rfl)
                simp only [Act.put, tS1, tS2, tS3]
                refine tkA 22 (?_) ?_ E0.out ?_
                rotate_left
                · (intro w1 hS; go_simp; try with_reducible rfl)
                simp only [Act.put, tS1, tS2, tS3]
                refine tkA 23 (?_) ?_ E0.out ?_
                rotate_left
                · (intro w1 hS; go_simp; try with_reducible rfl)
                simp only [Act.put, tS1, tS2, tS3]
                refine tkA 24 (?_) ?_ E0.out ?_
                rotate_left
                · (intro w1 hS; go_simp; try with_reducible rfl)
                simp only [Act.put, tS1, tS2, tS3]
                refine tkA 25 (?_) ?_ E0.out ?_
                rotate_left
                · (intro w1 hS; go_simp; try with_reducible rfl)
                simp only [Act.put, tS1, tS2, tS3]
                refine tkN 26 E0.out ?_
                simp only [Act.put, tS1, tS2, tS3]
                refine tkN 27 E0.out ?_
                simp only [Act.put, tS1, tS2, tS3]
                refine tkA 28 (?_) ?_ E0.out ?_
                rotate_left
                · (intro w1 hS; go_simp; try with_reducible rfl)
                simp only [Act.put, tS1, tS2, tS3]
                refine tkA 29 (?_) ?_ E0.out ?_
                rotate_left
                · (intro w1 hS; go_simp; try with_reducible rfl)
                simp only [Act.put, tS1, tS2, tS3]
                refine tkN 30 E0.out ?_
                simp only [Act.put, tS1, tS2, tS3]
                refine tkN 31 E0.out ?_
                simp only [Act.put, tS1, tS2, tS3]
                refine tkA 32 (?_) ?_ E0.out ?_
                rotate_left
                · (intro w1 hS; go_simp; try with_reducible rfl)
                simp only [Act.put, tS1, tS2, tS3]
                refine tkA 33 (?_) ?_ E0.out ?_
                rotate_left
                · (intro w1 hS; go_simp; try with_reducible rfl)
                simp only [Act.put, tS1, tS2, tS3]
                refine wpAnyH_done (by kernel_rfl) ?_ _
                have hy := E0.out
                replace OW := Lib.hid (own_keep OW.out hy)
                replace HTr := Lib.hid (HTr.out.below hy)
                replace Kr := Lib.hid (Kr.out.trans (hy.mono Kr.out.size))
                replace C5 := Lib.hid (C5.out.below hy C5.out.lt)
                replace K10 := Lib.hid (K10.out.below hy K10.out.lt)
                replace X15 := Lib.hid (X15.out.below hy X15.out.lt)
                replace X17 := Lib.hid (X17.out.below hy X17.out.lt)
                clear hy E0
                by_cases he : E = 0
                · subst he
                  have HF2 := Lib.hid (HT5.out rfl)
                  clear HT5 HT6
                  as_aux_lemma =>
                    go_upto_region 29 with fail
                    have LK := Lib.hid (show (loadVar 42 ⟨g10, 0, none⟩).run Try.prog Y26x0 = .ok (.agg k.cs) Y26x0 from run_blk_load (P := Try.prog) 42 g10 _ K10.out Try.underlying42 rfl KZ.out)
                    have KY2 : Hid (k.cs.size = 37) := Fl.cs_size _ HKF.out
                    have h10y := K10.out.lt
                    clear hz42
                    go_wp2_with (first | ((with_reducible refine wpList_load_want (op := ⟨some 160, .load 42 (.tmp 10), _, _, _, _⟩) ?wg160 42 (.tmp 10) ?wo160 ⟨g10, 0, none⟩ ?wx160 (.agg k.cs) LK.out ?_); (case wg160 => rfl); (case wo160 => rfl); (case wx160 => rfl)) | ((with_reducible refine wpList_one_blk (o := ⟨some 161, .buildSlice 57 1 #[(0, .tmp 160)], _, _, _, _⟩) ?og 57 42 (.tmp 160) ?oo k.cs k0.cs 37 40 ?ox Try.underlying57 info42 ?oz KY2.out ?om ?_); (case og => rfl); (case oo => rfl); (case ox => rfl); (case oz => exact Fl.cs_size _ k0_fit); (case om => decide); intro w1x hn1x hy1 hs1x; have NB := Lib.hid hn1x; have OW1 := Lib.hid (own_keep OW.out hy1); have K1x := Lib.hid (Kr.out.trans (hy1.mono Kr.out.size)); have HT1 := Lib.hid (HTr.out.below hy1); have C51 := Lib.hid (C5.out.below hy1 C5.out.lt)) | (at_builtin; refine wpList_app_blk (by rfl) (.tmp 159) (.tmp 161) 57 42 rfl k.cs k0.cs 37 40 Try.underlying57 info42 (Fl.cs_size _ k0_fit) KY2.out (by decide) KA.out b0 _ _ _ rfl OW1.out Y26x0.heap.size rfl NB.out (by omega) (by omega) ?_; intro g' c'' w2x ho2 gr2))
                    have OW2 := Lib.hid ho2
                    have hown := fun k (e : Value.ownBlock _ = some k) => (own_lt OW1.out e).1
                    have K2 := Lib.hid (K1x.out.grown gr2 K1x.out.size (fun k e => by have := hown k e; omega))
                    have HT2 := Lib.hid (HT1.out.kept (fun j hj => gr2.block j (by have := HT1.out.lt; omega) (fun e => by have := hown j e.symm; omega)))
                    have C52 := Lib.hid (show Blk _ _ _ _ from (gr2.block _ C51.out.lt (fun e => by have := hown _ e.symm; omega)).trans C51.out)
                    have hsz := gr2.size
                    have HLF2 : Hid (∀ l ∈ L ++ [k], l.Fit) := fun l hl => by
                      rw [List.mem_append, List.mem_singleton] at hl
                      rcases hl with hl | rfl
                      · exact HLF.out l hl
                      · exact HKF.out
                    clear ho2 gr2 HT1 K1x OW1 NB C51 hown
                    go_wp2
                    go_roundw
                    case rel => exact ⟨j + 1, c2, L ++ [k], hlt, by rw [List.length_append]; simp; omega, by go_num, HT2, HF2, Lib.hid (by rw [flcs_snoc, List.length_append]; exact OW2.out), HLF2, C52, K2, by omega⟩
                    case measure => simp [RowKit.intOf]; omega
                have HF2 := Lib.hid (HT6.out he)
                have g1 : decide (E = 0) = false := decide_eq_false he
                have g2 : (E == 0) = false := by simpa using he
                clear HT5 HT6
                go_wp2
                go_roundw
                case rel => exact ⟨j + 1, c2, L, hlt, by omega, by go_num, HTr, HF2, OW, HLF, C5, Kr, by have := K10.out.lt; omega⟩
                case measure => simp [RowKit.intOf]; omega
            | some wk =>
              obtain ⟨w1, w2, w3, w4⟩ := HTK.out wk rfl
              have CDW := Lib.hid (fun W => CDG.out wk w4 w3 W)
              rw [w1] at CDW
              change Hid (∀ W, Calls _ _ #[_, .agg (tkC (some wk))] _ _) at CDW
              have EQ2 : Hid (∀ W, (Op.equalIn 10000 42 (.agg (tkC (some wk))) (.agg k.cs)).run Try.prog W = .ok false W) := fun W => eq_fl_no wk k w4 HKF.out w2 W
              generalize tkC (some wk) = xc at *
              generalize dgN c k = dk at *
              have HE := HT4.out HTB.out.symm
              clear HT4 HT5 HTK CDG HTB
              rcases HE with rfl | rfl
              · as_aux_lemma =>
                  have HF2 := Lib.hid (HT6.out (by decide))
                  refine wp_region_held (S := (fun w' : World => Below (V705.heap.size) V705 w')) (by kernel_rfl) ?_
                  change wpAnyH _ _ _ _ _ _ _ _ V705.drew
                  have hy : Below V705.heap.size V705 V705.drew := (Below.refl _ _).drew
                  have hE0 : Below (V705.heap.size) V705 V705.drew := (Below.refl _ _).drew
                  clear hy
                  generalize V705.drew = Y26x0 at hE0  ⊢
                  have E0 := Lib.hid hE0
                  clear hE0
                  refine tkA 0 (?_) ?_ E0.out ?_
                  rotate_left
                  · (intro w1 hS; go_simp; try with_reducible rfl)
                  simp only [Act.put, tS1, tS2, tS3]
                  refine tkA 1 (?_) ?_ E0.out ?_
                  rotate_left
                  · (intro w1 hS; go_simp; try with_reducible rfl)
                  simp only [Act.put, tS1, tS2, tS3]
                  refine tkA 2 (?_) ?_ E0.out ?_
                  rotate_left
                  · (intro w1 hS; go_simp; try with_reducible rfl)
                  simp only [Act.put, tS1, tS2, tS3]
                  refine tkA 3 (?_) ?_ E0.out ?_
                  rotate_left
                  · (intro w1 hS; go_simp; try with_reducible rfl)
                  simp only [Act.put, tS1, tS2, tS3]
                  refine tkA 4 (?_) ?_ E0.out ?_
                  rotate_left
                  · (intro w1 hS; go_simp; try with_reducible rfl)
                  simp only [Act.put, tS1, tS2, tS3]
                  refine tkA 5 (?_) ?_ E0.out ?_
                  rotate_left
                  · (intro w1 hS; go_simp; try with_reducible rfl)
                  simp only [Act.put, tS1, tS2, tS3]
                  refine tkA 6 (?_) ?_ E0.out ?_
                  rotate_left
                  · (intro w1 hS; go_simp; try with_reducible rfl)
                  simp only [Act.put, tS1, tS2, tS3]
                  refine tkA 7 (?_) ?_ E0.out ?_
                  rotate_left
                  · (intro w1 hS; go_simp; try with_reducible rfl)
                  simp only [Act.put, tS1, tS2, tS3]
                  refine tkA 8 (?_) ?_ E0.out ?_
                  rotate_left
                  · (intro w1 hS; go_simp; try with_reducible rfl)
                  simp only [Act.put, tS1, tS2, tS3]
                  refine tkA 9 (.agg cc) ?_ E0.out ?_
                  · (intro w1 hS; have hW := hS; exact exec_load 29 (.tmp 5) rfl _ rfl _ (run_blk_load (P := Try.prog) 29 (g5) _ (C5.out.below hW C5.out.lt) Try.underlying29 rfl RZ2.out))
                  simp only [Act.put, tS1, tS2, tS3]
                  refine tkA 10 (.agg xc) ?_ E0.out ?_
                  · (intro w1 hS; have hW := hS; exact exec_load 42 (.tmp 15) rfl _ rfl _ (run_blk_load (P := Try.prog) 42 (V701.heap.size) _ (X15.out.below hW X15.out.lt) Try.underlying42 rfl KXI.out))
                  simp only [Act.put, tS1, tS2, tS3]
                  refine tkA 12 (.agg cc) ?_ E0.out ?_
                  · (intro w1 hS; have hW := hS; exact exec_load 29 (.tmp 5) rfl _ rfl _ (run_blk_load (P := Try.prog) 29 (g5) _ (C5.out.below hW C5.out.lt) Try.underlying29 rfl RZ2.out))
                  simp only [Act.put, tS1, tS2, tS3]
                  refine tkA 13 (.agg k.cs) ?_ E0.out ?_
                  · (intro w1 hS; have hW := hS; exact exec_load 42 (.tmp 10) rfl _ rfl _ (run_blk_load (P := Try.prog) 42 (g10) _ (K10.out.below hW K10.out.lt) Try.underlying42 rfl KZ.out))
                  simp only [Act.put, tS1, tS2, tS3]
                  refine tkO 11 (fun KK hK => ?_)
                  go_simp
                  refine (CDW.out Y26x0).mono ?_
                  rintro e Y26x1 ⟨rfl, hy⟩
                  have E1 := Lib.hid (E0.out.trans (hy.mono E0.out.size))
                  have C1 := Lib.hid E1.out
                  clear hy E0
                  refine hK.out _ _ C1.out (fun _ => ?_)
                  clear hK KK
                  refine wpAnyH_mono (S' := (fun w' : World => Below Y26x1.heap.size Y26x1 w')) (fun w1 h => C1.out.trans (h.mono C1.out.size)) _ _ _ _ ?_
                  clear C1
                  try simp only [Act.put, tS1, tS2, tS3]
                  refine tkO 14 (fun KK hK => ?_)
                  go_simp
                  refine (CDK.out Y26x1).mono ?_
                  rintro e Y26x2 ⟨rfl, hy⟩
                  have E2 := Lib.hid (E1.out.trans (hy.mono E1.out.size))
                  have C2 := Lib.hid hy
                  clear hy E1
                  refine hK.out _ _ C2.out (fun _ => ?_)
                  clear hK KK
                  refine wpAnyH_mono (S' := (fun w' : World => Below Y26x2.heap.size Y26x2 w')) (fun w1 h => C2.out.trans (h.mono C2.out.size)) _ _ _ _ ?_
                  clear C2
                  try simp only [Act.put, tS1, tS2, tS3]
                  refine tkA 15 (?_) ?_ (Below.refl _ _) ?_
                  rotate_left
                  · (intro w1 hS; go_simp; try with_reducible rfl)
                  simp only [Act.put, tS1, tS2, tS3]
                  refine tkA 16 (?_) ?_ (Below.refl _ _) ?_
                  rotate_left
                  · (intro w1 hS; go_simp; try with_reducible rfl)
                  simp only [Act.put, tS1, tS2, tS3]
                  refine tkA 17 (.agg xc) ?_ (Below.refl _ _) ?_
                  · (intro w1 hS; have hW := E2.out.trans (hS.mono E2.out.size); exact exec_load 42 (.tmp 15) rfl _ rfl _ (run_blk_load (P := Try.prog) 42 (V701.heap.size) _ (X15.out.below hW X15.out.lt) Try.underlying42 rfl KXI.out))
                  simp only [Act.put, tS1, tS2, tS3]
                  refine tkA 18 (.agg k.cs) ?_ (Below.refl _ _) ?_
                  · (intro w1 hS; have hW := E2.out.trans (hS.mono E2.out.size); exact exec_load 42 (.tmp 10) rfl _ rfl _ (run_blk_load (P := Try.prog) 42 (g10) _ (K10.out.below hW K10.out.lt) Try.underlying42 rfl KZ.out))
                  simp only [Act.put, tS1, tS2, tS3]
                  refine tkA 19 (.bool false) ?_ (Below.refl _ _) ?_
                  · (intro w1 hS; have hW := E2.out.trans (hS.mono E2.out.size); exact exec_eql42 (.tmp 140) (.tmp 141) rfl _ _ rfl rfl _ (EQ2.out _))
                  simp only [Act.put, tS1, tS2, tS3]
                  refine tkA 20 (?_) ?_ (Below.refl _ _) ?_
                  rotate_left
                  · (intro w1 hS; go_simp; try with_reducible rfl)
                  simp only [Act.put, tS1, tS2, tS3]
                  refine tkA 21 (?_) ?_ (Below.refl _ _) ?_
                  rotate_left
                  · (intro w1 hS; go_simp; try with_reducible rfl)
                  simp only [Act.put, tS1, tS2, tS3]
                  refine tkA 22 (?_) ?_ (Below.refl _ _) ?_
                  rotate_left
                  · (intro w1 hS; go_simp; try with_reducible rfl)
                  simp only [Act.put, tS1, tS2, tS3]
                  refine tkA 23 (?_) ?_ (Below.refl _ _) ?_
                  rotate_left
                  · (intro w1 hS; go_simp; try with_reducible rfl)
                  simp only [Act.put, tS1, tS2, tS3]
                  refine tkA 24 (?_) ?_ (Below.refl _ _) ?_
                  rotate_left
                  · (intro w1 hS; go_simp; try with_reducible rfl)
                  simp only [Act.put, tS1, tS2, tS3]
                  refine tkA 25 (?_) ?_ (Below.refl _ _) ?_
                  rotate_left
                  · (intro w1 hS; go_simp; try with_reducible rfl)
                  simp only [Act.put, tS1, tS2, tS3]
                  refine tkA 26 (?_) ?_ (Below.refl _ _) ?_
                  rotate_left
                  · (intro w1 hS; go_simp; try with_reducible rfl)
                  simp only [Act.put, tS1, tS2, tS3]
                  refine tkA 27 (?_) ?_ (Below.refl _ _) ?_
                  rotate_left
                  · (intro w1 hS; go_simp; try with_reducible rfl)
                  simp only [Act.put, tS1, tS2, tS3]
                  refine tkA 28 (?_) ?_ (Below.refl _ _) ?_
                  rotate_left
                  · (intro w1 hS; go_simp; try with_reducible rfl)
                  simp only [Act.put, tS1, tS2, tS3]
                  refine tkA 29 (?_) ?_ (Below.refl _ _) ?_
                  rotate_left
                  · (intro w1 hS; go_simp; try with_reducible rfl)
                  simp only [Act.put, tS1, tS2, tS3]
                  refine tkN 30 (Below.refl _ _) ?_
                  simp only [Act.put, tS1, tS2, tS3]
                  refine tkN 31 (Below.refl _ _) ?_
                  simp only [Act.put, tS1, tS2, tS3]
                  refine tkA 32 (?_) ?_ (Below.refl _ _) ?_
                  rotate_left
                  · (intro w1 hS; go_simp; try with_reducible rfl)
                  simp only [Act.put, tS1, tS2, tS3]
                  refine tkA 33 (?_) ?_ (Below.refl _ _) ?_
                  rotate_left
                  · (intro w1 hS; go_simp; try with_reducible rfl)
                  simp only [Act.put, tS1, tS2, tS3]
                  refine wpAnyH_done (by kernel_rfl) ?_ _
                  have hy := E2.out
                  replace OW := Lib.hid (own_keep OW.out hy)
                  replace HTr := Lib.hid (HTr.out.below hy)
                  replace Kr := Lib.hid (Kr.out.trans (hy.mono Kr.out.size))
                  replace C5 := Lib.hid (C5.out.below hy C5.out.lt)
                  replace K10 := Lib.hid (K10.out.below hy K10.out.lt)
                  replace X15 := Lib.hid (X15.out.below hy X15.out.lt)
                  replace X17 := Lib.hid (X17.out.below hy X17.out.lt)
                  clear hy E2
                  have h10y := K10.out.lt
                  go_wp2
                  go_roundw
                  case rel => exact ⟨j + 1, c2, L, hlt, by omega, by go_num, HTr, HF2, OW, HLF, C5, Kr, by have := K10.out.lt; omega⟩
                  case measure => simp [RowKit.intOf]; omega
              · as_aux_lemma =>
                  have HF2 := Lib.hid (HT6.out (by decide))
                  refine wp_region_held (S := (fun w' : World => Below (V705.heap.size) V705 w')) (by kernel_rfl) ?_
                  change wpAnyH _ _ _ _ _ _ _ _ V705.drew
                  have hy : Below V705.heap.size V705 V705.drew := (Below.refl _ _).drew
                  have hE0 : Below (V705.heap.size) V705 V705.drew := (Below.refl _ _).drew
                  clear hy
                  generalize V705.drew = Y26x0 at hE0  ⊢
                  have E0 := Lib.hid hE0
                  clear hE0
                  refine tkA 0 (?_) ?_ E0.out ?_
                  rotate_left
                  · (intro w1 hS; go_simp; try with_reducible rfl)
                  simp only [Act.put, tS1, tS2, tS3]
                  refine tkA 1 (?_) ?_ E0.out ?_
                  rotate_left
                  · (intro w1 hS; go_simp; try with_reducible rfl)
                  simp only [Act.put, tS1, tS2, tS3]
                  refine tkA 2 (?_) ?_ E0.out ?_
                  rotate_left
                  · (intro w1 hS; go_simp; try with_reducible rfl)
                  simp only [Act.put, tS1, tS2, tS3]
                  refine tkA 3 (?_) ?_ E0.out ?_
                  rotate_left
                  · (intro w1 hS; go_simp; try with_reducible rfl)
                  simp only [Act.put, tS1, tS2, tS3]
                  refine tkA 4 (?_) ?_ E0.out ?_
                  rotate_left
                  · (intro w1 hS; go_simp; try with_reducible rfl)
                  simp only [Act.put, tS1, tS2, tS3]
                  refine tkA 5 (?_) ?_ E0.out ?_
                  rotate_left
                  · (intro w1 hS; go_simp; try with_reducible rfl)
                  simp only [Act.put, tS1, tS2, tS3]
                  refine tkA 6 (?_) ?_ E0.out ?_
                  rotate_left
                  · (intro w1 hS; go_simp; try with_reducible rfl)
                  simp only [Act.put, tS1, tS2, tS3]
                  refine tkA 7 (?_) ?_ E0.out ?_
                  rotate_left
                  · (intro w1 hS; go_simp; try with_reducible rfl)
                  simp only [Act.put, tS1, tS2, tS3]
                  refine tkA 8 (?_) ?_ E0.out ?_
                  rotate_left
                  · (intro w1 hS; go_simp; try with_reducible rfl)
                  simp only [Act.put, tS1, tS2, tS3]
                  refine tkA 9 (.agg cc) ?_ E0.out ?_
                  · (intro w1 hS; have hW := hS; exact exec_load 29 (.tmp 5) rfl _ rfl _ (run_blk_load (P := Try.prog) 29 (g5) _ (C5.out.below hW C5.out.lt) Try.underlying29 rfl RZ2.out))
                  simp only [Act.put, tS1, tS2, tS3]
                  refine tkA 10 (.agg xc) ?_ E0.out ?_
                  · (intro w1 hS; have hW := hS; exact exec_load 42 (.tmp 15) rfl _ rfl _ (run_blk_load (P := Try.prog) 42 (V701.heap.size) _ (X15.out.below hW X15.out.lt) Try.underlying42 rfl KXI.out))
                  simp only [Act.put, tS1, tS2, tS3]
                  refine tkA 12 (.agg cc) ?_ E0.out ?_
                  · (intro w1 hS; have hW := hS; exact exec_load 29 (.tmp 5) rfl _ rfl _ (run_blk_load (P := Try.prog) 29 (g5) _ (C5.out.below hW C5.out.lt) Try.underlying29 rfl RZ2.out))
                  simp only [Act.put, tS1, tS2, tS3]
                  refine tkA 13 (.agg k.cs) ?_ E0.out ?_
                  · (intro w1 hS; have hW := hS; exact exec_load 42 (.tmp 10) rfl _ rfl _ (run_blk_load (P := Try.prog) 42 (g10) _ (K10.out.below hW K10.out.lt) Try.underlying42 rfl KZ.out))
                  simp only [Act.put, tS1, tS2, tS3]
                  refine tkO 11 (fun KK hK => ?_)
                  go_simp
                  refine (CDW.out Y26x0).mono ?_
                  rintro e Y26x1 ⟨rfl, hy⟩
                  have E1 := Lib.hid (E0.out.trans (hy.mono E0.out.size))
                  have C1 := Lib.hid E1.out
                  clear hy E0
                  refine hK.out _ _ C1.out (fun _ => ?_)
                  clear hK KK
                  refine wpAnyH_mono (S' := (fun w' : World => Below Y26x1.heap.size Y26x1 w')) (fun w1 h => C1.out.trans (h.mono C1.out.size)) _ _ _ _ ?_
                  clear C1
                  try simp only [Act.put, tS1, tS2, tS3]
                  refine tkO 14 (fun KK hK => ?_)
                  go_simp
                  refine (CDK.out Y26x1).mono ?_
                  rintro e Y26x2 ⟨rfl, hy⟩
                  have E2 := Lib.hid (E1.out.trans (hy.mono E1.out.size))
                  have C2 := Lib.hid hy
                  clear hy E1
                  refine hK.out _ _ C2.out (fun _ => ?_)
                  clear hK KK
                  refine wpAnyH_mono (S' := (fun w' : World => Below Y26x2.heap.size Y26x2 w')) (fun w1 h => C2.out.trans (h.mono C2.out.size)) _ _ _ _ ?_
                  clear C2
                  try simp only [Act.put, tS1, tS2, tS3]
                  refine tkA 15 (?_) ?_ (Below.refl _ _) ?_
                  rotate_left
                  · (intro w1 hS; go_simp; try with_reducible rfl)
                  simp only [Act.put, tS1, tS2, tS3]
                  refine tkA 16 (?_) ?_ (Below.refl _ _) ?_
                  rotate_left
                  · (intro w1 hS; go_simp; try with_reducible rfl)
                  simp only [Act.put, tS1, tS2, tS3]
                  refine tkA 17 (.agg xc) ?_ (Below.refl _ _) ?_
                  · (intro w1 hS; have hW := E2.out.trans (hS.mono E2.out.size); exact exec_load 42 (.tmp 15) rfl _ rfl _ (run_blk_load (P := Try.prog) 42 (V701.heap.size) _ (X15.out.below hW X15.out.lt) Try.underlying42 rfl KXI.out))
                  simp only [Act.put, tS1, tS2, tS3]
                  refine tkA 18 (.agg k.cs) ?_ (Below.refl _ _) ?_
                  · (intro w1 hS; have hW := E2.out.trans (hS.mono E2.out.size); exact exec_load 42 (.tmp 10) rfl _ rfl _ (run_blk_load (P := Try.prog) 42 (g10) _ (K10.out.below hW K10.out.lt) Try.underlying42 rfl KZ.out))
                  simp only [Act.put, tS1, tS2, tS3]
                  refine tkA 19 (.bool false) ?_ (Below.refl _ _) ?_
                  · (intro w1 hS; have hW := E2.out.trans (hS.mono E2.out.size); exact exec_eql42 (.tmp 140) (.tmp 141) rfl _ _ rfl rfl _ (EQ2.out _))
                  simp only [Act.put, tS1, tS2, tS3]
                  refine tkA 20 (?_) ?_ (Below.refl _ _) ?_
                  rotate_left
                  · (intro w1 hS; go_simp; try with_reducible rfl)
                  simp only [Act.put, tS1, tS2, tS3]
                  refine tkA 21 (?_) ?_ (Below.refl _ _) ?_
                  rotate_left
                  · (intro w1 hS; go_simp; try with_reducible rfl)
                  simp only [Act.put, tS1, tS2, tS3]
                  refine tkA 22 (?_) ?_ (Below.refl _ _) ?_
                  rotate_left
                  · (intro w1 hS; go_simp; try with_reducible rfl)
                  simp only [Act.put, tS1, tS2, tS3]
                  refine tkA 23 (?_) ?_ (Below.refl _ _) ?_
                  rotate_left
                  · (intro w1 hS; go_simp; try with_reducible rfl)
                  simp only [Act.put, tS1, tS2, tS3]
                  refine tkA 24 (?_) ?_ (Below.refl _ _) ?_
                  rotate_left
                  · (intro w1 hS; go_simp; try with_reducible rfl)
                  simp only [Act.put, tS1, tS2, tS3]
                  refine tkA 25 (?_) ?_ (Below.refl _ _) ?_
                  rotate_left
                  · (intro w1 hS; go_simp; try with_reducible rfl)
                  simp only [Act.put, tS1, tS2, tS3]
                  refine tkA 26 (?_) ?_ (Below.refl _ _) ?_
                  rotate_left
                  · (intro w1 hS; go_simp; try with_reducible rfl)
                  simp only [Act.put, tS1, tS2, tS3]
                  refine tkA 27 (?_) ?_ (Below.refl _ _) ?_
                  rotate_left
                  · (intro w1 hS; go_simp; try with_reducible rfl)
                  simp only [Act.put, tS1, tS2, tS3]
                  refine tkA 28 (?_) ?_ (Below.refl _ _) ?_
                  rotate_left
                  · (intro w1 hS; go_simp; try with_reducible rfl)
                  simp only [Act.put, tS1, tS2, tS3]
                  refine tkA 29 (?_) ?_ (Below.refl _ _) ?_
                  rotate_left
                  · (intro w1 hS; go_simp; try with_reducible rfl)
                  simp only [Act.put, tS1, tS2, tS3]
                  refine tkA 30 (?_) ?_ (Below.refl _ _) ?_
                  rotate_left
                  · (intro w1 hS; go_simp; try with_reducible rfl)
                  simp only [Act.put, tS1, tS2, tS3]
                  refine tkA 31 (?_) ?_ (Below.refl _ _) ?_
                  rotate_left
                  · (intro w1 hS; go_simp; try with_reducible rfl)
                  simp only [Act.put, tS1, tS2, tS3]
                  refine tkA 32 (?_) ?_ (Below.refl _ _) ?_
                  rotate_left
                  · (intro w1 hS; go_simp; try with_reducible rfl)
                  simp only [Act.put, tS1, tS2, tS3]
                  refine tkA 33 (?_) ?_ (Below.refl _ _) ?_
                  rotate_left
                  · (intro w1 hS; go_simp; try with_reducible rfl)
                  simp only [Act.put, tS1, tS2, tS3]
                  refine wpAnyH_done (by kernel_rfl) ?_ _
                  have hy := E2.out
                  replace OW := Lib.hid (own_keep OW.out hy)
                  replace HTr := Lib.hid (HTr.out.below hy)
                  replace Kr := Lib.hid (Kr.out.trans (hy.mono Kr.out.size))
                  replace C5 := Lib.hid (C5.out.below hy C5.out.lt)
                  replace K10 := Lib.hid (K10.out.below hy K10.out.lt)
                  replace X15 := Lib.hid (X15.out.below hy X15.out.lt)
                  replace X17 := Lib.hid (X17.out.below hy X17.out.lt)
                  clear hy E2
                  have h10y := K10.out.lt
                  go_wp2
                  go_roundw
                  case rel => exact ⟨j + 1, c2, L, hlt, by omega, by go_num, HTr, HF2, OW, HLF, C5, Kr, by have := K10.out.lt; omega⟩
                  case measure => simp [RowKit.intOf]; omega
    · have d1 : decide ((j : Int) < (lm : Int)) = false := decide_eq_false (by omega)
      have d2 : decide (j < lm) = false := decide_eq_false hlt
      have CL1 := Lib.hid (fun W h => CLN.out tn fn B c' W h)
      rw [show (itF c' 0 (c.st.toNat * c.sz.toNat)).length = L.length from HTI.out.cnt] at CL1
      subst hrs
      clear CLN CTW CIN CPL CDG PLT TOK TIN
      go_wp2_with fail
      refine (CL1.out wr HTr.out).mono ?_
      rintro e V901 ⟨rfl, hy⟩
      replace Kr := Lib.hid (Kr.out.trans (hy.mono Kr.out.size))
      replace HTr := Lib.hid (HTr.out.below hy)
      clear hy
      go_wp2_with fail
      refine (AW.out V901).mono ?_
      rintro e V902 ⟨rfl, hy⟩
      replace Kr := Lib.hid (Kr.out.trans (hy.mono Kr.out.size))
      replace HTr := Lib.hid (HTr.out.below hy)
      clear hy
      go_wp2
      go_ret
      exact ⟨rfl, Kr.out⟩
end Go.Proofs.Ythldpnifodbheaa
