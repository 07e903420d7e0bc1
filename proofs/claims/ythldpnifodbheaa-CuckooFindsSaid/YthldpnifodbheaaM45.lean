/- Texts that the walks of this seat lean on, put together. -/
import Derived.Deep.CutBlock
import Derived.Deep.DeepCutAuto
import Derived.LoopTactic
import Derived.Handy
import Derived.Test.YthldpnifodbheaaTk
import Derived.Test.YthldpnifodbheaaTl
import Derived.Test.YthldpnifodbheaaM43
import Derived.Test.YthldpnifodbheaaM44
namespace Go.Proofs.Ythldpnifodbheaa
open Go.RowKit Go.Lib
theorem own_nil_cap {w : World} {b : Nat} {e : TypeId} {k n l c : Nat} {a : Option Addr} {xs : List Value} (h : w.ownsRow b e k (.slice a l c) n xs) : a = none → c = 0 := fun ha => by
  subst ha
  rcases h.2 with ⟨h1, -⟩ | ⟨g, cap, cur, h1, -⟩
  · cases h1; rfl
  · cases h1
theorem own_cellI {W : World} {b g cap k : Nat} {L : List Nat} (h : W.ownsRow b 3 1 (.slice (some ⟨g, 0, none⟩) L.length cap) L.length (nus .i64 L)) (hk : k < L.length) : W.cell? ⟨g, k, none⟩ = some (.int .i64 ((L.getD k 0 : Nat) : Int)) := by
  have h2 := h.cellAt k (by omega)
  rw [nus_get .i64 L k hk] at h2
  exact h2
set_option maxRecDepth 100000 in
set_option maxHeartbeats 4000000 in
theorem finds_walk (va vn vo : Value) (zs ns os : List Int) (w : World) (hva : Rd w va (ivs zs)) (hvn : Rd w vn (ivs ns)) (hvo : Rd w vo (ivs os)) :
    Calls Try.prog 3 #[va, vn, vo] w fun e w' => e = .returned (.bool true) ∧ Below w.heap.size w w' := by
  have K := lh (Below.refl w.heap.size w)
  have AW := lh awake_any
  have HV := lh hva
  have HN := lh hvn
  have HO := lh hvo
  have CC := lh (fun v W h => config_any v zs W h)
  have CRD := lh (fun (k : Int) W => round_any k 5000 W (by decide) (by decide))
  have CFL : Hid (∀ (m : Nat) W, Calls Try.prog 12 #[.int .i64 (m : Int), .bool false, .bool false] W fun e w' => e = .returned (.agg (fiK m).cs) ∧ Below W.heap.size W w') := fun m W => flow_any (m : Int) false false W
  obtain ⟨a, cap, rfl, -, -⟩ := rdI_shape hva
  obtain ⟨b, cap2, rfl, -, -⟩ := rdI_shape hvn
  obtain ⟨d, cap3, rfl, -, -⟩ := rdI_shape hvo
  obtain ⟨ln, hln⟩ : ∃ n, n = zs.length := ⟨_, rfl⟩
  obtain ⟨lm, hlm⟩ : ∃ n, n = ns.length := ⟨_, rfl⟩
  obtain ⟨lo, hlo⟩ : ∃ n, n = os.length := ⟨_, rfl⟩
  rw [← hln] at HV ⊢
  rw [← hlm] at HN ⊢
  rw [← hlo] at HO ⊢
  have HN0 := HN
  have HO0 := HO
  have HLN := lh hln
  have HLM := lh hlm
  have HLO := lh hlo
  clear hva hvn hvo hln hlm hlo
  by_cases h0 : ln > 30
  · have e0a : decide ((ln : Int) > 30) = true := decide_eq_true (by omega)
    have e0b : decide (ln > 30) = true := decide_eq_true (by omega)
    have e0c : decide (30 < ln) = true := decide_eq_true (by omega)
    clear HV HN HO HN0 HO0 HLN HLM HLO CC CRD CFL h0
    go_enter Try.func3, Try.ntmps3
    go_wp2_with fail
    refine (AW.out w).mono ?_
    rintro e V1 ⟨rfl, hy⟩
    replace K := lh (K.out.trans (hy.mono K.out.size))
    clear hy
    go_wp2
    go_ret
    exact ⟨rfl, K.out⟩
  by_cases h1 : lm > 60
  · have e0a : decide ((ln : Int) > 30) = false := decide_eq_false (by omega)
    have e0b : decide (ln > 30) = false := decide_eq_false (by omega)
    have e0c : decide (30 < ln) = false := decide_eq_false (by omega)
    have e1a : decide ((lm : Int) > 60) = true := decide_eq_true (by omega)
    have e1b : decide (lm > 60) = true := decide_eq_true (by omega)
    have e1c : decide (60 < lm) = true := decide_eq_true (by omega)
    clear HV HN HO HN0 HO0 HLN HLM HLO CC CRD CFL h0 h1
    go_enter Try.func3, Try.ntmps3
    go_wp2_with fail
    refine (AW.out w).mono ?_
    rintro e V1 ⟨rfl, hy⟩
    replace K := lh (K.out.trans (hy.mono K.out.size))
    clear hy
    go_wp2
    go_ret
    exact ⟨rfl, K.out⟩
  by_cases h2 : lo > 30
  · have e0a : decide ((ln : Int) > 30) = false := decide_eq_false (by omega)
    have e0b : decide (ln > 30) = false := decide_eq_false (by omega)
    have e0c : decide (30 < ln) = false := decide_eq_false (by omega)
    have e1a : decide ((lm : Int) > 60) = false := decide_eq_false (by omega)
    have e1b : decide (lm > 60) = false := decide_eq_false (by omega)
    have e1c : decide (60 < lm) = false := decide_eq_false (by omega)
    have e2a : decide ((lo : Int) > 30) = true := decide_eq_true (by omega)
    have e2b : decide (lo > 30) = true := decide_eq_true (by omega)
    have e2c : decide (30 < lo) = true := decide_eq_true (by omega)
    clear HV HN HO HN0 HO0 HLN HLM HLO CC CRD CFL h0 h1 h2
    go_enter Try.func3, Try.ntmps3
    go_wp2_with fail
    refine (AW.out w).mono ?_
    rintro e V1 ⟨rfl, hy⟩
    replace K := lh (K.out.trans (hy.mono K.out.size))
    clear hy
    go_wp2
    go_ret
    exact ⟨rfl, K.out⟩
  have e1d : decide (ln > 30) = false := decide_eq_false (by omega)
  have e1e : decide ((ln : Int) > 30) = false := decide_eq_false (by omega)
  have e1f : decide (30 < ln) = false := decide_eq_false (by omega)
  have e2d : decide (lm > 60) = false := decide_eq_false (by omega)
  have e2e : decide ((lm : Int) > 60) = false := decide_eq_false (by omega)
  have e2f : decide (60 < lm) = false := decide_eq_false (by omega)
  have e3d : decide (lo > 30) = false := decide_eq_false (by omega)
  have e3e : decide ((lo : Int) > 30) = false := decide_eq_false (by omega)
  have e3f : decide (30 < lo) = false := decide_eq_false (by omega)
  have hlm60 : lm ≤ 60 := by omega
  have hlo30 : lo ≤ 30 := by omega
  clear h0 h1 h2
  obtain ⟨ZC, hZC⟩ : ∃ Z, Z = cf0.cs := ⟨_, rfl⟩
  have z29 : ∀ W, (zeroValue 29).run Try.prog W = .ok (.agg ZC) W := by rw [hZC]; exact zero27
  have hZS : ZC.size = 48 := by rw [hZC]; exact cf_size _ cf0_fit
  obtain ⟨c, hc0⟩ : ∃ c, c = cfg zs := ⟨_, rfl⟩
  have hc : c.Fit := by rw [hc0]; exact cfg_fit zs
  have hok : okC c = true := by rw [hc0]; exact cfg_ok zs
  rw [← hc0] at CC
  clear hZC hc0
  have RY : Hid (c.cs.size = ZC.size) := by show _ = _; rw [cf_size c hc, hZS]
  have RZ := lh (cf_ic c hc)
  have RA := lh (cf_all c)
  have CM := lh (fun W => made_any c hc hok W)
  have CIN := lh (fun tn fn B c' (k : Fl) (hk : k.Fit) v r W h => insert_any tn fn B c c' hc hok k hk v r W h (fun R h => way_sh (way_ok c hok c' k R h)))
  have CDE := lh (fun tn fn B c' (k : Fl) (hk : k.Fit) W h => delete_any tn fn B c c' hc hok k hk W h)
  have CLN := lh (fun tn fn B c' W h => tlen_any tn fn B c c' W h)
  have CLK := lh (fun tn fn B c' (k : Fl) (hk : k.Fit) v W h => look_any tn fn B c c' hc hok k hk v W h)
  have COW := lh (fun tn fn B c' x W h => owner_any tn fn B c c' x W h)
  have FINS := lh (fun c' L (hF : FI c c' L) n hn hk => fi_ins hok hF n hn hk)
  have FDEL := lh (fun c' L (hF : FI c c' L) i hi => fi_del hok hF i hi)
  have FLK := lh (fun c' L (hF : FI c c' L) n hn => fi_look hok hF n hn)
  obtain ⟨ZK, hZK⟩ : ∃ Z, Z = k0.cs := ⟨_, rfl⟩
  have z42 : Hid (∀ W, (zeroValue 42).run Try.prog W = .ok (.agg ZK) W) := by rw [hZK]; exact zero42
  have hZKS : ZK.size = 37 := by rw [hZK]; exact Fl.cs_size _ k0_fit
  clear hZK
  go_enter Try.func3, Try.ntmps3
  go_wp2_with fail
  refine (CC.out _ w HV.out).mono ?_
  rintro e V1 ⟨rfl, hy⟩
  replace HV := lh (HV.out.below hy)
  replace HN := lh (HN.out.below hy)
  replace HO := lh (HO.out.below hy)
  replace K := lh (K.out.trans (hy.mono K.out.size))
  clear hy
  go_wp2_with (((with_reducible refine wpList_blk_store (op := ⟨none, .store 29 (.tmp 7) (.tmp 41), _, _, _, _⟩) ?sg1 29 (.tmp 7) (.tmp 41) ?so1 (V1.heap.size) c.cs ?sx1 ?sy1 (Blk.new V1 29 ZC) RY.out RZ.out RA.out ?_); (case sg1 => rfl); (case so1 => rfl); (case sx1 => rfl); (case sy1 => rfl)))
  intro V2 hA hF hB
  have hy := ((Below.refl V1.heap.size V1).alloc (Nat.le_refl _) (.cells ZC 29)).trans (hB _ (Nat.le_refl _))
  replace HV := lh (HV.out.below hy)
  replace HN := lh (HN.out.below hy)
  replace HO := lh (HO.out.below hy)
  replace K := lh (K.out.trans (hy.mono K.out.size))
  have C7 := lh hA
  clear hA hF hB hy
  have L2 : (loadVar 29 ⟨V1.heap.size, 0, none⟩).run Try.prog V2 = .ok (.agg c.cs) V2 := run_blk_load (P := Try.prog) 29 (V1.heap.size) _ C7.out Try.underlying29 rfl RZ.out
  replace L2 := lh L2
  go_wp2_with (((with_reducible refine wpList_load_want (op := ⟨some 43, .load 29 (.tmp 7), _, _, _, _⟩) ?wg2 29 (.tmp 7) ?wo2 ⟨V1.heap.size, 0, none⟩ ?wx2 (.agg c.cs) L2.out ?_); (case wg2 => rfl); (case wo2 => rfl); (case wx2 => rfl)))
  clear L2
  have hk3 := K.out.size
  refine (CM.out V2).mono ?_
  rintro e V3 ⟨tn, fn, B, rt, rfl, ht, hfn, -, -, hy⟩
  replace HV := lh (HV.out.below hy)
  replace HN := lh (HN.out.below hy)
  replace HO := lh (HO.out.below hy)
  replace K := lh (K.out.trans (hy.mono K.out.size))
  replace C7 := lh (C7.out.below hy C7.out.lt)
  have HT := lh ht
  have hfB : fn < B := ht.hF
  have hBt : B + (2 + c.st.toNat) ≤ tn := by have := ht.hT; omega
  have hqt := eqt_some ⟨tn, 0, none⟩
  have htl := ht.lt
  clear ht CM CC RY RZ RA
  clear hy
  obtain ⟨b0, hb0⟩ : ∃ b, b = V3.heap.size := ⟨_, rfl⟩
  have htb : tn < b0 := by omega
  have hb0w : b0 ≤ V3.heap.size := by omega
  have hwb0 : w.heap.size ≤ b0 := by have := K.out.size; omega
  clear hb0 HV HN HO C7 z29
  go_wp2
  go_loopw [10, 11] (fun r i wr => ∃ (j : Nat) (c' : Nat → Option Se) (L : List Nat), j ≤ lm + lo ∧ L.length ≤ j ∧ i = .int .i64 (j : Int) ∧ Hid (TS tn fn B c c' wr) ∧ Hid (FI c c' L) ∧ Hid (wr.ownsRow b0 3 1 r L.length (nus .i64 L)) ∧ Hid (Below w.heap.size w wr) ∧ b0 ≤ wr.heap.size) (fun _ i _ => lm + lo - (RowKit.intOf i).toNat)
  case atStart => exact ⟨0, _, [], Nat.zero_le _, Nat.le_refl _, rfl, HT, FI.none c, World.ownsRow_nil _ _ _ _, K, hb0w⟩
  case round =>
    obtain ⟨j, c', L, hj, hLj, rfl, HTr, HFI, OW, Kr, hbr⟩ := hrel
    clear HT K hb0w
    obtain ⟨ra, rcap, hrs⟩ := row_shape OW.out
    subst hrs
    have hra := own_nil_cap OW.out
    have w5 : IntKind.i64.wrap ((lm : Int) + (lo : Int)) = (lm : Int) + (lo : Int) := by rw [IntKind.wrap_i64]; omega
    by_cases hlt : j < lm + lo
    · clear AW
      have d1 : decide ((j : Int) < (lm : Int) + (lo : Int)) = true := decide_eq_true (by omega)
      have d2 : decide (j < lm + lo) = true := decide_eq_true hlt
      have w6 : IntKind.i64.wrap ((j : Int) + 1) = ((j + 1 : Nat) : Int) := by rw [IntKind.wrap_i64]; omega
      have hLb : L.length ≤ 90 := by omega
      go_upto_if 61 with fail
      go_cut [10] (fun r wx => ∃ (c2 : Nat → Option Se) (L2 : List Nat), L2.length ≤ j + 1 ∧ Hid (TS tn fn B c c2 wx) ∧ Hid (FI c c2 L2) ∧ Hid (wx.ownsRow b0 3 1 r L2.length (nus .i64 L2)) ∧ Hid (Below w.heap.size w wx) ∧ b0 ≤ wx.heap.size)
      case first =>
        by_cases hA : j < lm
        · as_aux_lemma =>
            clear FDEL FLK CDE CLN CLK COW
            have f1 : decide ((j : Int) < (lm : Int)) = true := decide_eq_true (by omega)
            have f2 : decide (j < lm) = true := decide_eq_true hA
            have hb2 : 0 ≤ (j : Int) ∧ (j : Int) < (lm : Int) := by omega
            have hnr := HN0.out
            rw [HLM.out] at hnr
            obtain ⟨bb, off, rfl, hcl⟩ := RdI.cells hnr (by rw [← HLM.out]; omega)
            have c00 := lh (hcl j (by rw [← HLM.out]; exact hA))
            have hb0 : bb < w.heap.size := World.block_lt_of_cell? w _ c00.out
            have c0c := (Kr.out.cell (p := ⟨bb, off + j, none⟩) hb0).trans c00.out
            generalize ns.getD j 0 = z at *
            clear hnr hcl
            obtain ⟨nn, hnn⟩ : ∃ nn : Nat, z % 5000 = (nn : Int) := ⟨(z % 5000).toNat, by omega⟩
            have hn5 : nn < 5000 := by omega
            have CR1 := lh (fun W => CRD.out z W)
            rw [hnn] at CR1
            have t2 : ((nn : Nat) : Int).tmod 2 = ((nn % 2 : Nat) : Int) := by rw [Int.tmod_eq_emod_of_nonneg (by omega)]; exact (Int.natCast_emod nn 2).symm
            have t7 : ((nn : Nat) : Int).tmod 7 = ((nn % 7 : Nat) : Int) := by rw [Int.tmod_eq_emod_of_nonneg (by omega)]; exact (Int.natCast_emod nn 7).symm
            have hkf := kflow_fit (nn : Int) false false
            obtain ⟨v1, v2, v3⟩ := FINS.out c' L HFI.out nn hn5 hkf
            have CI1 := lh (fun W h => CIN.out tn fn B c' (fiK nn) hkf ((nn % 2 : Nat) : Int) ((nn % 7 : Nat) : Int) W h)
            have CF1 := lh (fun W => CFL.out nn W)
            have CH1 := lh (fun v W h => has_any v L nn (by omega) W h)
            have HF0 := lh v2
            have HF1 := lh v3
            clear v2 v3 CIN FINS CRD CFL hnn
            generalize insC c c' (fiK nn) hkf ((nn % 2 : Nat) : Int) ((nn % 7 : Nat) : Int) = c2 at *
            generalize insM c c' (fiK nn) ((nn % 2 : Nat) : Int) ((nn % 7 : Nat) : Int) = im at *
            generalize insE c c' (fiK nn) ((nn % 2 : Nat) : Int) ((nn % 7 : Nat) : Int) = E at *
            generalize (fiK nn).cs = kc at *
            have q2 : nn % 2 < 2 := Nat.mod_lt _ (by decide)
            have q7 : nn % 7 < 7 := Nat.mod_lt _ (by decide)
            generalize hm2 : nn % 2 = n2 at *
            generalize hm7 : nn % 7 = n7 at *
            go_wp2_with fail
            refine (CR1.out wr).mono ?_
            rintro e V201 ⟨rfl, rfl⟩
            go_wp2_with fail
            refine (CF1.out wr).mono ?_
            rintro e V202 ⟨rfl, hy⟩
            replace OW := lh (own_keep OW.out hy)
            replace HTr := lh (HTr.out.below hy)
            replace Kr := lh (Kr.out.trans (hy.mono Kr.out.size))
            have h4m := HTr.out.lt
            have hs12 := hy.size
            clear hy
            go_wp2_with fail
            refine (CI1.out V202 HTr.out).mono ?_
            rintro e V203 ⟨mv, rfl, hg, ha, -⟩
            replace Kr := lh (Kr.out.trans (ha.below (by omega) Kr.out.size))
            replace OW := lh (own_of_same OW.out fun g hg => ha.block g (own_lt OW.out hg).2.1 (.inr (by have := (own_lt OW.out hg).1; omega)))
            replace HTr := lh hg
            skip
            have hav := ha.size
            have hbr2 : b0 ≤ V203.heap.size := by omega
            clear hg ha CI1 CF1
            by_cases h6 : E = 6
            · subst h6
              rw [decide_eq_true (v1.1 rfl)] at CH1
              have HF2 := lh (HF1.out (by decide))
              clear v1 HF0 HF1
              go_wp2_with fail
              refine (CH1.out _ V203 (Rd.own OW.out)).mono ?_
              rintro e V204 ⟨rfl, rfl⟩
              go_wp2
              go_meet
              exact ⟨c2, L, by omega, HTr, HF2, OW, Kr, hbr2⟩
            rw [decide_eq_false (fun q => h6 (v1.2 q))] at CH1
            have g1 : decide (E = 6) = false := decide_eq_false h6
            have g2 : (E == 6) = false := by simpa using h6
            by_cases h0 : E = 0
            · subst h0
              have HF2 := lh (HF0.out rfl)
              clear v1 HF0 HF1 h6
              go_wp2_with fail
              refine (CH1.out _ V203 (Rd.own OW.out)).mono ?_
              rintro e V204 ⟨rfl, rfl⟩
              go_upto_region 18 with fail
              have hal := (Below.refl V203.heap.size V203).alloc (Nat.le_refl _) (.cells #[] 3)
              have HR0 := lh (own_none V203 3)
              have INa := lh ((Rd.own OW.out).below hal)
              have EA := lh hal
              have hsa : (V203.alloc (.cells #[] 3)).heap.size = V203.heap.size + 1 := World.size_alloc _ _
              clear hal
              go_wp2_with (first | (at_builtin; refine wpListI_apps rfl (by rfl) (.tmp 87) (.tmp 88) rfl (V203.heap.size) _ 0 [] rfl HR0.out ra L.length rcap L rfl INa.out hra (by omega) (by omega) ?_; intro v1 W1 oz1 gz1; have HR1 := lh oz1; have E1 := lh (EA.out.grown gz1 (by omega) (fun q e => (HR0.out.lt q e).1))) | ((with_reducible refine wpListI_one (o := ⟨some 91, .buildSlice 22 1 #[(0, .tmp 90)], _, _, _, _⟩) ?op ?og (.tmp 90) ?oo nn ?ox ?_); (case op => rfl); (case og => rfl); (case oo => rfl); (case ox => rfl); intro W2 hn2 hy2; have NB := lh hn2; have HR2 := lh (own_keep HR1.out hy2); have E2 := lh (E1.out.trans (hy2.mono E1.out.size))) | (at_builtin; refine wpListI_app rfl (by rfl) (.tmp 89) (.tmp 91) rfl (V203.heap.size) v1 (0 + L.length) ([] ++ L) rfl HR2.out W1.heap.size nn rfl NB.out (by omega) E2.out.size ?_; intro v3 W3 oz3 gz3; have HR3 := lh oz3; have E3 := lh (E2.out.grown gz3 E2.out.size (fun q e => (HR2.out.lt q e).1))))
              replace HTr := lh (HTr.out.below E3.out)
              replace Kr := lh (Kr.out.trans (E3.out.mono Kr.out.size))
              have hOW2 := own_low (b1 := b0) hbr2 HR3.out
              rw [show 0 + L.length + 1 = (L ++ [nn]).length by rw [List.length_append]; simp, List.nil_append] at hOW2
              have OW2 := lh hOW2
              have hbr3 := Nat.le_trans hbr2 E3.out.size
              clear hOW2 HR3 E3 HR2 E2 NB HR1 E1 EA INa HR0
              go_meet
              exact ⟨c2, L ++ [nn], by rw [List.length_append]; simp; omega, HTr, HF2, OW2, Kr, hbr3⟩
            · have g3 : decide (E = 0) = false := decide_eq_false h0
              have g4 : (E == 0) = false := by simpa using h0
              have HF2 := lh (HF1.out h0)
              clear v1 HF0 HF1
              go_wp2_with fail
              refine (CH1.out _ V203 (Rd.own OW.out)).mono ?_
              rintro e V204 ⟨rfl, rfl⟩
              go_wp2
              go_meet
              exact ⟨c2, L, by omega, HTr, HF2, OW, Kr, hbr2⟩
        · as_aux_lemma =>
            clear FINS FLK CIN CLN CLK COW
            have f1 : decide ((j : Int) < (lm : Int)) = false := decide_eq_false (by omega)
            have f2 : decide (j < lm) = false := decide_eq_false hA
            by_cases hL : 0 < L.length
            · have f3 : decide ((L.length : Int) > 0) = true := decide_eq_true (by omega)
              have f4 : decide (0 < L.length) = true := decide_eq_true hL
              have f5 : decide ((0 : Int) < (L.length : Int)) = true := decide_eq_true (by omega)
              have w9 : IntKind.i64.wrap ((j : Int) - (lm : Int)) = ((j - lm : Nat) : Int) := by rw [IntKind.wrap_i64]; omega
              have hb2 : 0 ≤ ((j - lm : Nat) : Int) ∧ ((j - lm : Nat) : Int) < (lo : Int) := by omega
              have hnr := HO0.out
              rw [HLO.out] at hnr
              obtain ⟨bb, off, rfl, hcl⟩ := RdI.cells hnr (by rw [← HLO.out]; omega)
              have c00 := lh (hcl (j - lm) (by rw [← HLO.out]; omega))
              have hb0 : bb < w.heap.size := World.block_lt_of_cell? w _ c00.out
              have c0c := (Kr.out.cell (p := ⟨bb, off + (j - lm), none⟩) hb0).trans c00.out
              generalize os.getD (j - lm) 0 = z at *
              generalize hjm : j - lm = jm at *
              clear hnr hcl
              obtain ⟨kk, hkk⟩ : ∃ kk : Nat, z % (L.length : Int) = (kk : Int) := ⟨(z % (L.length : Int)).toNat, by have := Int.emod_nonneg z (show (L.length : Int) ≠ 0 by omega); omega⟩
              have hkl : kk < L.length := by have := Int.emod_lt_of_pos z (show (0 : Int) < (L.length : Int) by omega); omega
              have CR1 := lh (fun W => round_any z (L.length : Int) W (by omega) (by omega))
              rw [hkk] at CR1
              obtain ⟨p, s, v1, v2, v3⟩ := FDEL.out c' L HFI.out kk hkl
              have hmL : L.getD kk 0 ∈ L := by rw [List.getD_eq_getElem?_getD, List.getElem?_eq_getElem hkl]; exact List.getElem_mem hkl
              have hx5 := HFI.out.lt _ hmL
              have CKK : Hid (∀ (W : World) (g cap : Nat), W.ownsRow b0 3 1 (.slice (some ⟨g, 0, none⟩) L.length cap) L.length (nus .i64 L) → W.cell? ⟨g, kk, none⟩ = some (.int .i64 ((L.getD kk 0 : Nat) : Int))) := fun W g cap h => own_cellI h hkl
              generalize L.getD kk 0 = x at *
              have hkf := kflow_fit (x : Int) false false
              have CD1 := lh (fun W h => CDE.out tn fn B c' (fiK x) hkf W h)
              rw [v1] at CD1
              change Hid (∀ W, _ → Calls _ _ _ _ (fun e w' => e = .returned (.tuple #[.agg s.ce, .bool true]) ∧ _)) at CD1
              have HF2 := lh v3
              have CF1 := lh (fun W => CFL.out x W)
              have t7 : ((x : Nat) : Int).tmod 7 = ((x % 7 : Nat) : Int) := by rw [Int.tmod_eq_emod_of_nonneg (by omega)]; exact (Int.natCast_emod x 7).symm
              have S3 : Hid (s.ce[3]? = some (.int .i64 ((x % 7 : Nat) : Int))) := by show some (Value.int .i64 s.r) = _; rw [v2]
              have SY : Hid (s.ce.size = zCe.size) := rfl
              have SZ : Hid ((Try.prog.info? 46).map (·.size) = some s.ce.size) := i46c
              have SA := lh (ceC_all true s.d s.v s.r)
              change Hid (s.ce.all _ = true) at SA
              have hz46 := zero46
              clear v1 v2 v3 hmL hkk CFL CRD CDE FDEL
              generalize dlC c c' (fiK x) = c2 at *
              generalize s.ce = sc at *
              generalize (fiK x).cs = kc at *
              generalize hx7 : x % 7 = x7 at *
              rcases row_two OW.out with ⟨-, hz⟩ | ⟨g, gcap, hsl, hgc, hgb⟩
              · omega
              simp only [Value.slice.injEq, true_and] at hsl
              obtain ⟨rfl, rfl⟩ := hsl
              have ck := CKK.out _ _ _ OW.out
              have hb3 : 0 ≤ (kk : Int) ∧ (kk : Int) < (L.length : Int) := by omega
              go_wp2_with fail
              refine (CR1.out wr).mono ?_
              rintro e V201 ⟨rfl, rfl⟩
              go_wp2_with fail
              refine (CF1.out wr).mono ?_
              rintro e V202 ⟨rfl, hy⟩
              replace OW := lh (own_keep OW.out hy)
              replace HTr := lh (HTr.out.below hy)
              replace Kr := lh (Kr.out.trans (hy.mono Kr.out.size))
              have h4m := HTr.out.lt
              have hs12 := hy.size
              clear hy
              go_wp2_with fail
              refine (CD1.out V202 HTr.out).mono ?_
              rintro e V203 ⟨rfl, hg, ha⟩
              replace Kr := lh (Kr.out.trans (ha.below (by omega) Kr.out.size))
              replace OW := lh (own_of_same OW.out fun g hg => ha.block g (own_lt OW.out hg).2.1 (.inr (by have := (own_lt OW.out hg).1; omega)))
              replace HTr := lh hg
              skip
              have hav := ha.size
              have hbr2 : b0 ≤ V203.heap.size := by omega
              clear hg ha CD1 CF1 CR1 ck c0c
              go_wp2_with (((with_reducible refine wpList_blk_store (op := ⟨none, .store 46 (.tmp 17) (.tmp 114), _, _, _, _⟩) ?sg3 46 (.tmp 17) (.tmp 114) ?so3 (V203.heap.size) sc ?sx3 ?sy3 (Blk.new V203 46 zCe) SY.out SZ.out SA.out ?_); (case sg3 => rfl); (case so3 => rfl); (case sx3 => rfl); (case sy3 => rfl)))
              intro V204 hA hF hB
              have hy := ((Below.refl V203.heap.size V203).alloc (Nat.le_refl _) (.cells zCe 46)).trans (hB _ (Nat.le_refl _))
              replace OW := lh (own_keep OW.out hy)
              replace HTr := lh (HTr.out.below hy)
              replace Kr := lh (Kr.out.trans (hy.mono Kr.out.size))
              have X17 := lh hA
              clear hA hF hB hy
              go_upto_region 22 with fail
              refine wp_region_held (S := (fun w' : World => Below (V204.heap.size) V204 w')) (by kernel_rfl) ?_
              change wpAnyH _ _ _ _ _ _ _ _ V204.drew
              have hy : Below V204.heap.size V204 V204.drew := (Below.refl _ _).drew
              have hE0 : Below (V204.heap.size) V204 V204.drew := (Below.refl _ _).drew
              clear hy
              generalize V204.drew = Y22x0 at hE0  ⊢
              have E0 := lh hE0
              clear hE0
              refine tkA 0 (?_) ?_ E0.out ?_
              rotate_left
              · (intro w1 hS; go_simp; try with_reducible rfl)
              simp only [Act.put, tS1, tS2, tS3]
              refine tkA 1 (?_) ?_ E0.out ?_
              rotate_left
              · (intro w1 hS; go_simp; try with_reducible rfl)
              simp only [Act.put, tS1, tS2, tS3]
              refine tkA 2 (?_) ?_ E0.out ?_
              rotate_left
              · (intro w1 hS; go_simp; try with_reducible rfl)
              simp only [Act.put, tS1, tS2, tS3]
              refine tkA 3 (?_) ?_ E0.out ?_
              rotate_left
              · (intro w1 hS; go_simp; try with_reducible rfl)
              simp only [Act.put, tS1, tS2, tS3]
              refine tkA 4 (?_) ?_ E0.out ?_
              rotate_left
              · (intro w1 hS; have hW := hS; have q := ((X17.out.below hW X17.out.lt).cell 3).trans S3.out; clear hW hS; go_simp; try with_reducible rfl)
              simp only [Act.put, tS1, tS2, tS3]
              refine tkA 5 (?_) ?_ E0.out ?_
              rotate_left
              · (intro w1 hS; go_simp; try with_reducible rfl)
              simp only [Act.put, tS1, tS2, tS3]
              refine tkA 6 (?_) ?_ E0.out ?_
              rotate_left
              · (intro w1 hS; go_simp; try with_reducible rfl)
              simp only [Act.put, tS1, tS2, tS3]
              refine tkA 7 (?_) ?_ E0.out ?_
              rotate_left
              · (intro w1 hS; go_simp; try with_reducible rfl)
              simp only [Act.put, tS1, tS2, tS3]
              refine tkA 8 (?_) ?_ E0.out ?_
              rotate_left
              · (intro w1 hS; have hW := hS; have q := CKK.out w1 _ _ (own_keep OW.out hW); clear hW hS; go_simp; try with_reducible rfl)
              simp only [Act.put, tS1, tS2, tS3]
              refine tkA 9 (?_) ?_ E0.out ?_
              rotate_left
              · (intro w1 hS; go_simp; try with_reducible rfl)
              simp only [Act.put, tS1, tS2, tS3]
              refine tkA 10 (?_) ?_ E0.out ?_
              rotate_left
              · (intro w1 hS; go_simp; try with_reducible rfl)
              simp only [Act.put, tS1, tS2, tS3]
              refine tkA 11 (?_) ?_ E0.out ?_
              rotate_left
              · (intro w1 hS; go_simp; try with_reducible rfl)
              simp only [Act.put, tS1, tS2, tS3]
              refine wpAnyH_done (by kernel_rfl) ?_ _
              have hy := E0.out
              replace OW := lh (own_keep OW.out hy)
              replace HTr := lh (HTr.out.below hy)
              replace Kr := lh (Kr.out.trans (hy.mono Kr.out.size))
              replace X17 := lh (X17.out.below hy X17.out.lt)
              clear hy E0
              obtain ⟨P2, hP2⟩ : ∃ x, x = (if rcap = kk + 1 then some (⟨g, 0, none⟩ : Addr) else some ⟨g, kk + 1, none⟩) := ⟨_, rfl⟩
              have hr2 := Rd.subP (Rd.own OW.out) (kk + 1) (L.length - (kk + 1)) (by omega)
              rw [Nat.zero_add, ← hP2] at hr2
              have HR2 := lh hr2
              have HP3 : Hid (P2 = none → rcap - (kk + 1) = 0) := by
                show P2 = none → rcap - (kk + 1) = 0
                rw [hP2]; split <;> intro h <;> cases h
              have HP2 := lh hP2
              have w8 : IntKind.i64.wrap ((kk : Int) + 1) = ((kk + 1 : Nat) : Int) := by rw [IntKind.wrap_i64]; omega
              clear hr2 hP2
              go_upto_region 24 with fail
              have hlow : Y22x0.heap.size ≤ Y22x0.heap.size := Nat.le_refl _
              refine wp_region_held (S := (fun w' : World => Below (Y22x0.heap.size) Y22x0 w')) (by kernel_rfl) ?_
              change wpAnyH _ _ _ _ _ _ _ _ Y22x0.drew
              have hy : Below Y22x0.heap.size Y22x0 Y22x0.drew := (Below.refl _ _).drew
              have hE0 : Below (Y22x0.heap.size) Y22x0 Y22x0.drew := (Below.refl _ _).drew
              clear hy
              generalize Y22x0.drew = Y24x0 at hE0  ⊢
              have E0 := lh hE0
              clear hE0
              refine tkA 1 (?_) ?_ E0.out ?_
              rotate_left
              · (intro w1 hS; go_simp; try with_reducible rfl)
              simp only [Act.put, tS1, tS2, tS3]
              refine tkA 2 (?_) ?_ E0.out ?_
              rotate_left
              · (intro w1 hS; go_simp; try with_reducible rfl)
              simp only [Act.put, tS1, tS2, tS3]
              refine tkA 3 (?_) ?_ E0.out ?_
              rotate_left
              · (intro w1 hS; have hW := hS; have q : (kk : Int) ≤ (rcap : Int) := (by omega); clear hW hS; go_simp; try with_reducible rfl)
              simp only [Act.put, tS1, tS2, tS3]
              refine tkA 5 (?_) ?_ E0.out ?_
              rotate_left
              · (intro w1 hS; go_simp; try with_reducible rfl)
              simp only [Act.put, tS1, tS2, tS3]
              refine tkA 6 (?_) ?_ E0.out ?_
              rotate_left
              · (intro w1 hS; go_simp; try with_reducible rfl)
              simp only [Act.put, tS1, tS2, tS3]
              refine tkA 7 (?_) ?_ E0.out ?_
              rotate_left
              · (intro w1 hS; go_simp; try with_reducible rfl)
              simp only [Act.put, tS1, tS2, tS3]
              refine tkA 8 (?_) ?_ E0.out ?_
              rotate_left
              · (intro w1 hS; have hW := hS; have q : 0 ≤ (kk : Int) + 1 := (by omega); have q1 : (kk : Int) + 1 ≤ (L.length : Int) := (by omega); have q2 := HP2.out.symm; clear hW hS; go_simp; try with_reducible rfl)
              simp only [Act.put, tS1, tS2, tS3]
              refine tkO 0 (fun KK hK => ?_)
              go_simp
              have hr := own_none Y24x0 3
              have hy := (Below.refl Y24x0.heap.size Y24x0).alloc (Nat.le_refl _) (.cells #[] 3)
              generalize Y24x0.alloc (.cells #[] 3) = Y24x1 at hr hy ⊢
              have R0 := lh (own_low (b1 := Y22x0.heap.size) E0.out.size hr)
              have E1 := lh (E0.out.trans (hy.mono E0.out.size))
              clear hr hy E0
              refine hK.out _ _ E1.out (fun _ => ?_)
              clear hK KK
              try simp only [Act.put, tS1, tS2, tS3]
              refine tkO 4 (fun KK hK => ?_)
              rw [if_pos (by rfl)]
              refine wpI_apps (.tmp 128) (.tmp 131) rfl (Y22x0.heap.size) (.slice (some ⟨Y24x0.heap.size, 0, none⟩) 0 0) 0 [] rfl R0.out (some ⟨g, 0, none⟩) kk rcap (L.take kk) rfl (((Rd.own OW.out).below E1.out).front kk (by omega)) (fun e => by cases e) (by omega) E1.out.size ?_
              intro v1 Y24x2 oz gz
              have E2 := lh (E1.out.grown gz E1.out.size (fun q e => (R0.out.lt q e).1))
              have R1 := lh oz
              clear oz gz R0 E1
              refine hK.out _ _ E2.out (fun _ => ?_)
              clear hK KK
              try simp only [Act.put, tS1, tS2, tS3]
              refine tkO 9 (fun KK hK => ?_)
              rw [if_pos (by rfl)]
              refine wpI_apps (.tmp 132) (.tmp 136) rfl (Y22x0.heap.size) v1 (0 + kk) ([] ++ L.take kk) rfl R1.out P2 (L.length - (kk + 1)) (rcap - (kk + 1)) ((L.drop (kk + 1)).take (L.length - (kk + 1))) rfl (HR2.out.below E2.out) HP3.out (by omega) E2.out.size ?_
              intro v2 Y24x3 oz gz
              have E3 := lh (E2.out.grown gz E2.out.size (fun q e => (R1.out.lt q e).1))
              have R2 := lh oz
              clear oz gz R1 E2
              refine hK.out _ _ E3.out (fun _ => ?_)
              clear hK KK
              try simp only [Act.put, tS1, tS2, tS3]
              refine tkA 10 (?_) ?_ E3.out ?_
              rotate_left
              · (intro w1 hS; go_simp; try with_reducible rfl)
              simp only [Act.put, tS1, tS2, tS3]
              refine wpAnyH_done (by kernel_rfl) ?_ _
              have h17 := X17.out.lt
              have hbr3 : b0 ≤ Y24x3.heap.size := Nat.le_trans (show b0 ≤ Y22x0.heap.size from by omega) E3.out.size
              have hbV : b0 ≤ Y22x0.heap.size := by omega
              replace HTr := lh (HTr.out.below E3.out)
              replace Kr := lh (Kr.out.trans (E3.out.mono Kr.out.size))
              have hOW2 := own_low (b1 := b0) hbV R2.out
              rw [List.nil_append, List.take_of_length_le (show (L.drop (kk + 1)).length ≤ L.length - (kk + 1) by rw [List.length_drop]; omega)] at hOW2
              have hll : (L.take kk ++ L.drop (kk + 1)).length = 0 + kk + (L.length - (kk + 1)) := by rw [List.length_append, List.length_take, List.length_drop]; omega
              rw [← hll] at hOW2
              have OW2 := lh hOW2
              clear hOW2 R2 E3 HR2 HP2 HP3
              go_wp2
              go_meet
              exact ⟨c2, L.take kk ++ L.drop (kk + 1), by omega, HTr, HF2, OW2, Kr, hbr3⟩
            · have f3 : decide ((L.length : Int) > 0) = false := decide_eq_false (by omega)
              have f4 : decide (0 < L.length) = false := decide_eq_false hL
              have f5 : decide ((0 : Int) < (L.length : Int)) = false := decide_eq_false (by omega)
              go_wp2
              go_meet
              exact ⟨c', L, by omega, HTr, HFI, OW, Kr, hbr⟩
      case rest =>
        clear HTr HFI OW Kr hbr hLj hra hLb
        obtain ⟨c2, L2, hLj2, hT, hF, hO, hK, hbr⟩ := hcut
        have HTr := lh hT.out
        have HFI := lh hF.out
        have OW := lh hO.out
        have Kr := lh hK.out
        clear hT hF hO hK CIN CDE FINS FDEL CRD
        obtain ⟨ra2, rcap2, hrs⟩ := row_shape OW.out
        subst hrs
        have CL1 := lh (fun W h => CLN.out tn fn B c2 W h)
        rw [show (itF c2 0 (c.st.toNat * c.sz.toNat)).length = L2.length from HFI.out.cnt] at CL1
        go_wp2_with fail
        refine (CL1.out wc HTr.out).mono ?_
        rintro e V201 ⟨rfl, hy⟩
        replace OW := lh (own_keep OW.out hy)
        replace HTr := lh (HTr.out.below hy)
        replace Kr := lh (Kr.out.trans (hy.mono Kr.out.size))
        have hbr1 := Nat.le_trans hbr hy.size
        clear CL1 CLN
        clear hy
        go_wp2
        have hTl := HTr.out.lt
        go_loopw [19] (fun i wr => ∃ q : Nat, q ≤ L2.length ∧ i = .int .i64 (q : Int) ∧ Hid (Below V201.heap.size V201 wr)) (fun i _ => L2.length - (RowKit.intOf i).toNat)
        case atStart => exact ⟨0, Nat.zero_le _, rfl, Below.refl _ _⟩
        case round =>
          obtain ⟨q, hq, rfl, KL⟩ := hrel
          have HTq := lh (HTr.out.below KL.out)
          have OWq := lh (own_keep OW.out KL.out)
          have Kq := lh (Kr.out.trans (KL.out.mono Kr.out.size))
          have hbq := Nat.le_trans hbr1 KL.out.size
          by_cases hlt3 : q < L2.length
          · as_aux_lemma =>
              have g1 : decide ((q : Int) < (L2.length : Int)) = true := decide_eq_true (by omega)
              have g2 : decide (q < L2.length) = true := decide_eq_true hlt3
              have w8 : IntKind.i64.wrap ((q : Int) + 1) = ((q + 1 : Nat) : Int) := by rw [IntKind.wrap_i64]; omega
              have hb3 : 0 ≤ (q : Int) ∧ (q : Int) < (L2.length : Int) := by omega
              have hmL : L2.getD q 0 ∈ L2 := by rw [List.getD_eq_getElem?_getD, List.getElem?_eq_getElem hlt3]; exact List.getElem_mem hlt3
              have hx5 := HFI.out.lt _ hmL
              obtain ⟨p, s, v1, v2, v3, v4, v5⟩ := FLK.out c2 L2 HFI.out _ hmL
              have CKK : Hid (∀ (W : World) (g cap : Nat), W.ownsRow b0 3 1 (.slice (some ⟨g, 0, none⟩) L2.length cap) L2.length (nus .i64 L2) → W.cell? ⟨g, q, none⟩ = some (.int .i64 ((L2.getD q 0 : Nat) : Int))) := fun W g cap h => own_cellI h hlt3
              generalize L2.getD q 0 = x at *
              have hkf := kflow_fit (x : Int) false false
              have CF1 := lh (fun W => CFL.out x W)
              have CL1 := lh (fun W h => CLK.out tn fn B c2 (fiK x) hkf ((x % 2 : Nat) : Int) W h)
              rw [v1] at CL1
              change Hid (∀ W, _ → Calls _ _ _ _ (fun e w' => e = .returned (.tuple #[.agg (pcP p), .agg s.ce, .bool true]) ∧ _)) at CL1
              have CO1 := lh (fun W h => COW.out tn fn B c2 p W h)
              rw [v2] at CO1
              change Hid (∀ W, _ → Calls _ _ _ _ (fun e w' => e = .returned (.tuple #[.agg s.k.cs, .bool true]) ∧ _)) at CO1
              rw [v3] at CO1
              have t2 : ((x : Nat) : Int).tmod 2 = ((x % 2 : Nat) : Int) := by rw [Int.tmod_eq_emod_of_nonneg (by omega)]; exact (Int.natCast_emod x 2).symm
              have t7 : ((x : Nat) : Int).tmod 7 = ((x % 7 : Nat) : Int) := by rw [Int.tmod_eq_emod_of_nonneg (by omega)]; exact (Int.natCast_emod x 7).symm
              have S3 : Hid (s.ce[3]? = some (.int .i64 ((x % 7 : Nat) : Int))) := by show some (Value.int .i64 s.r) = _; rw [v5]
              have S2 : Hid (s.ce[2]? = some (.int .i64 ((x % 2 : Nat) : Int))) := by show some (Value.int .i64 s.v) = _; rw [v4]
              have SZ : Hid ((Try.prog.info? 46).map (·.size) = some s.ce.size) := i46c
              have SY : Hid (s.ce.size = zCe.size) := rfl
              have SA := lh (ceC_all true s.d s.v s.r)
              change Hid (s.ce.all _ = true) at SA
              have PY : Hid ((pcP p).size = (#[Value.int .i64 0, .int .i64 0] : Array Value).size) := rfl
              have PZ : Hid ((Try.prog.info? 51).map (·.size) = some (pcP p).size) := i51c
              have PA := lh (pcP_all p)
              have KY : Hid ((fiK x).cs.size = ZK.size) := by show _ = _; rw [Fl.cs_size _ hkf, hZKS]
              have KZ := lh (fl_ik _ hkf)
              have KA := lh (Fl.cs_all (fiK x))
              have EQK : Hid (∀ W, (Op.equalIn 10000 42 (.agg (fiK x).cs) (.agg (fiK x).cs)).run Try.prog W = .ok true W) := fun W => eq_fl_yes _ hkf W
              clear v1 v2 v3 v4 v5 hmL hkf CLK COW CFL FLK
              generalize (fiK x).cs = kc at *
              generalize s.ce = sc at *
              generalize pcP p = pp at *
              have q2 : x % 2 < 2 := Nat.mod_lt _ (by decide)
              have q7 : x % 7 < 7 := Nat.mod_lt _ (by decide)
              generalize hx2 : x % 2 = x2 at *
              generalize hx7 : x % 7 = x7 at *
              rcases row_two OWq.out with ⟨-, hz⟩ | ⟨g, gcap, hsl, hgc, hgb⟩
              · omega
              simp only [Value.slice.injEq, true_and] at hsl
              obtain ⟨rfl, rfl⟩ := hsl
              have ck := CKK.out _ _ _ OWq.out
              have hz42 := z42.out
              have hz46 := zero46
              have h4l := HTq.out.lt
              clear OW HTr Kr
              go_wp2_with fail
              refine (CF1.out wr).mono ?_
              rintro e V501 ⟨rfl, hy⟩
              replace OWq := lh (own_keep OWq.out hy)
              replace HTq := lh (HTq.out.below hy)
              replace KL := lh (KL.out.trans (hy.mono KL.out.size))
              have h4m := HTq.out.lt
              clear ck
              clear hy
              go_wp2_with (((with_reducible refine wpList_blk_store (op := ⟨none, .store 42 (.tmp 20) (.tmp 153), _, _, _, _⟩) ?sg4 42 (.tmp 20) (.tmp 153) ?so4 (V501.heap.size) kc ?sx4 ?sy4 (Blk.new V501 42 ZK) KY.out KZ.out KA.out ?_); (case sg4 => rfl); (case so4 => rfl); (case sx4 => rfl); (case sy4 => rfl)))
              intro V502 hA hF hB
              have hy := ((Below.refl V501.heap.size V501).alloc (Nat.le_refl _) (.cells ZK 42)).trans (hB _ (Nat.le_refl _))
              replace OWq := lh (own_keep OWq.out hy)
              replace HTq := lh (HTq.out.below hy)
              replace KL := lh (KL.out.trans (hy.mono KL.out.size))
              have K20 := lh hA
              clear hA hF hB hy
              go_upto_region 31 with fail
              obtain ⟨g20, hg20⟩ : ∃ g, g = V501.heap.size := ⟨_, rfl⟩
              have htg : tn < g20 := by omega
              rw [← hg20] at K20 ⊢
              clear hg20
              have h20 := K20.out.lt
              have hOl := HTq.out.lt
              go_cut [21, 22, 23] (fun v21 v22 v23 wx => ∃ gP gC, v21 = .pointer (some ⟨gP, 0, none⟩) ∧ v22 = .pointer (some ⟨gC, 0, none⟩) ∧ v23 = .bool true ∧ Blk wx gP 51 pp ∧ Blk wx gC 46 sc ∧ V502.heap.size ≤ gP ∧ V502.heap.size ≤ gC ∧ Below V502.heap.size V502 wx)
              case first =>
                have KB := lh (Below.refl V502.heap.size V502)
                have hz51 : ∀ W, (zeroValue 51).run Try.prog W = .ok (.agg #[.int .i64 0, .int .i64 0]) W := fun W => by kernel_rfl
                clear CO1 EQK KL
                refine wp_region_held (S := (fun w' : World => Blk w' (g20) 42 kc ∧ w'.ownsRow b0 3 1 (.slice (some ⟨g, 0, none⟩) L2.length rcap2) L2.length (nus .i64 L2))) (by kernel_rfl) ?_
                change wpAnyH _ _ _ _ _ _ _ _ V502.drew
                have hy : Below V502.heap.size V502 V502.drew := (Below.refl _ _).drew
                replace OWq := lh (own_keep OWq.out hy)
                replace HTq := lh (HTq.out.below hy)
                replace K20 := lh (K20.out.below hy K20.out.lt)
                replace KB := lh (KB.out.trans (hy.mono KB.out.size))
                clear hy
                generalize V502.drew = Y31h0 at *
                refine tkA 0 (?_) ?_ ⟨K20.out, OWq.out⟩ ?_
                rotate_left
                · (intro w1 hS; go_simp; try with_reducible rfl)
                simp only [Act.put, tS1, tS2, tS3]
                refine tkA 1 (.agg kc) ?_ ⟨K20.out, OWq.out⟩ ?_
                · (intro w1 hS; obtain ⟨hS0, hS1⟩ := hS; exact exec_load 42 (.tmp 20) rfl _ rfl _ (run_blk_load (P := Try.prog) 42 (g20) _ hS0 Try.underlying42 rfl KZ.out))
                simp only [Act.put, tS1, tS2, tS3]
                refine tkA 2 (?_) ?_ ⟨K20.out, OWq.out⟩ ?_
                rotate_left
                · (intro w1 hS; go_simp; try with_reducible rfl)
                simp only [Act.put, tS1, tS2, tS3]
                refine tkA 3 (?_) ?_ ⟨K20.out, OWq.out⟩ ?_
                rotate_left
                · (intro w1 hS; go_simp; try with_reducible rfl)
                simp only [Act.put, tS1, tS2, tS3]
                refine tkA 4 (?_) ?_ ⟨K20.out, OWq.out⟩ ?_
                rotate_left
                · (intro w1 hS; go_simp; try with_reducible rfl)
                simp only [Act.put, tS1, tS2, tS3]
                refine tkA 5 (?_) ?_ ⟨K20.out, OWq.out⟩ ?_
                rotate_left
                · (intro w1 hS; obtain ⟨hS0, hS1⟩ := hS; have q := CKK.out w1 _ _ hS1; go_simp; try with_reducible rfl)
                simp only [Act.put, tS1, tS2, tS3]
                refine tkA 6 (?_) ?_ ⟨K20.out, OWq.out⟩ ?_
                rotate_left
                · (intro w1 hS; go_simp; try with_reducible rfl)
                simp only [Act.put, tS1, tS2, tS3]
                refine tkB3 7 12 13 (fun KK hK => ?_) (fun KK hK => ?_) (fun KK hK => ?_)
                · skip
                  go_simp
                  refine (CL1.out Y31h0 HTq.out).mono ?_
                  rintro e Y31h1 ⟨rfl, hy⟩
                  replace OWq := lh (own_keep OWq.out hy)
                  replace HTq := lh (HTq.out.below hy)
                  replace K20 := lh (K20.out.below hy K20.out.lt)
                  replace KB := lh (KB.out.trans (hy.mono KB.out.size))
                  clear hy
                  refine hK.out _ _ ⟨K20.out, OWq.out⟩ (fun _ => ?_)
                  clear hK KK
                  try simp only [Act.put, tS1, tS2, tS3]
                  refine tkA 8 (?_) ?_ ⟨K20.out, OWq.out⟩ ?_
                  rotate_left
                  · (intro w1 hS; go_simp; try with_reducible rfl)
                  simp only [Act.put, tS1, tS2, tS3]
                  refine tkA 9 (?_) ?_ ⟨K20.out, OWq.out⟩ ?_
                  rotate_left
                  · (intro w1 hS; go_simp; try with_reducible rfl)
                  simp only [Act.put, tS1, tS2, tS3]
                  refine tkA 10 (?_) ?_ ⟨K20.out, OWq.out⟩ ?_
                  rotate_left
                  · (intro w1 hS; go_simp; try with_reducible rfl)
                  simp only [Act.put, tS1, tS2, tS3]
                  refine tkA 11 (?_) ?_ ⟨K20.out, OWq.out⟩ ?_
                  rotate_left
                  · (intro w1 hS; go_simp; try with_reducible rfl)
                  simp only [Act.put, tS1, tS2, tS3]
                  refine tkB 12 13 (fun KK hK => ?_) (fun KK hK => ?_)
                  · as_aux_lemma =>
                      skip
                      go_simp
                      have pb := Blk.new Y31h1 51 #[.int .i64 0, .int .i64 0]
                      have hy := (Below.refl Y31h1.heap.size Y31h1).alloc (Nat.le_refl _) (.cells #[.int .i64 0, .int .i64 0] 51)
                      obtain ⟨gX, hgX⟩ : ∃ g, g = Y31h1.heap.size := ⟨_, rfl⟩
                      have hg0X : V502.heap.size ≤ gX := by rw [hgX]; exact KB.out.size
                      replace OWq := lh (own_keep OWq.out hy)
                      replace HTq := lh (HTq.out.below hy)
                      replace K20 := lh (K20.out.below hy K20.out.lt)
                      replace KB := lh (KB.out.trans (hy.mono KB.out.size))
                      rw [← hgX] at pb ⊢
                      have X := lh pb
                      clear pb hy hgX
                      generalize Y31h1.alloc (.cells #[.int .i64 0, .int .i64 0] 51) = Y31h2 at *
                      refine hK.out _ _ ⟨K20.out, OWq.out⟩ (fun _ => ?_)
                      clear hK KK
                      try simp only [Act.put, tS1, tS2, tS3]
                      have hlX := X.out.lt
                      refine tkO 13 (fun KK hK => ?_)
                      go_simp
                      have pb := Blk.new Y31h2 46 zCe
                      have hy := (Below.refl Y31h2.heap.size Y31h2).alloc (Nat.le_refl _) (.cells zCe 46)
                      obtain ⟨gY, hgY⟩ : ∃ g, g = Y31h2.heap.size := ⟨_, rfl⟩
                      have hg0Y : V502.heap.size ≤ gY := by rw [hgY]; exact KB.out.size
                      replace OWq := lh (own_keep OWq.out hy)
                      replace HTq := lh (HTq.out.below hy)
                      replace K20 := lh (K20.out.below hy K20.out.lt)
                      replace KB := lh (KB.out.trans (hy.mono KB.out.size))
                      replace X := lh (X.out.below hy X.out.lt)
                      rw [← hgY] at pb ⊢
                      have Y := lh pb
                      clear pb hy hgY
                      generalize Y31h2.alloc (.cells zCe 46) = Y31h3 at *
                      refine hK.out _ _ ⟨K20.out, OWq.out⟩ (fun _ => ?_)
                      clear hK KK
                      try simp only [Act.put, tS1, tS2, tS3]
                      have hlY := Y.out.lt
                      have hne : gX ≠ gY := Blk.ne_ty X.out Y.out (by decide)
                      have hXY : gX < gY ∨ gY < gX := by omega
                      refine tkO 14 (fun KK hK => ?_)
                      rw [if_pos (by rfl)]
                      refine wp_blk_store 51 (.tmp 21) (.tmp 163) rfl pp rfl rfl X.out PY.out PZ.out PA.out ?_
                      intro Y31h4 hA hF hB
                      replace HTq := lh (HTq.out.belowB (hB (V502.heap.size) (by omega)) (by omega))
                      replace OWq := lh (own_blk_store OWq.out X.out (by decide) hF (hB 0 (Nat.zero_le _)).size)
                      replace K20 := lh (show Blk _ _ _ _ from (hF _ (by omega)).trans K20.out)
                      replace KB := lh (KB.out.trans (hB _ (by omega)))
                      replace Y := lh (show Blk _ _ _ _ from (hF _ (by omega)).trans Y.out)
                      replace X := lh hA
                      clear hA hF hB
                      refine hK.out _ _ ⟨K20.out, OWq.out⟩ (fun _ => ?_)
                      clear hK KK
                      try simp only [Act.put]
                      refine tkO 15 (fun KK hK => ?_)
                      rw [if_pos (by rfl)]
                      refine wp_blk_store 46 (.tmp 22) (.tmp 164) rfl sc rfl rfl Y.out SY.out SZ.out SA.out ?_
                      intro Y31h5 hA hF hB
                      replace HTq := lh (HTq.out.belowB (hB (V502.heap.size) (by omega)) (by omega))
                      replace OWq := lh (own_blk_store OWq.out Y.out (by decide) hF (hB 0 (Nat.zero_le _)).size)
                      replace K20 := lh (show Blk _ _ _ _ from (hF _ (by omega)).trans K20.out)
                      replace KB := lh (KB.out.trans (hB _ (by omega)))
                      replace X := lh (show Blk _ _ _ _ from (hF _ (by omega)).trans X.out)
                      replace Y := lh hA
                      clear hA hF hB
                      refine hK.out _ _ ⟨K20.out, OWq.out⟩ (fun _ => ?_)
                      clear hK KK
                      try simp only [Act.put]
                      refine tkA 16 (?_) ?_ ⟨K20.out, OWq.out⟩ ?_
                      rotate_left
                      · (intro w1 hS; go_simp; try with_reducible rfl)
                      simp only [Act.put, tS1, tS2, tS3]
                      refine wpAnyH_done (by kernel_rfl) ?_ _
                      go_wp2
                      go_meet
                      exact ⟨gX, gY, rfl, rfl, rfl, X.out, Y.out, by omega, by omega, KB.out⟩
                  · as_aux_lemma =>
                      skip
                      go_simp
                      have pb := Blk.new Y31h1 46 zCe
                      have hy := (Below.refl Y31h1.heap.size Y31h1).alloc (Nat.le_refl _) (.cells zCe 46)
                      obtain ⟨gY, hgY⟩ : ∃ g, g = Y31h1.heap.size := ⟨_, rfl⟩
                      have hg0Y : V502.heap.size ≤ gY := by rw [hgY]; exact KB.out.size
                      replace OWq := lh (own_keep OWq.out hy)
                      replace HTq := lh (HTq.out.below hy)
                      replace K20 := lh (K20.out.below hy K20.out.lt)
                      replace KB := lh (KB.out.trans (hy.mono KB.out.size))
                      rw [← hgY] at pb ⊢
                      have Y := lh pb
                      clear pb hy hgY
                      generalize Y31h1.alloc (.cells zCe 46) = Y31h2 at *
                      refine hK.out _ _ ⟨K20.out, OWq.out⟩ (fun _ => ?_)
                      clear hK KK
                      try simp only [Act.put, tS1, tS2, tS3]
                      have hlY := Y.out.lt
                      refine tkO 12 (fun KK hK => ?_)
                      go_simp
                      have pb := Blk.new Y31h2 51 #[.int .i64 0, .int .i64 0]
                      have hy := (Below.refl Y31h2.heap.size Y31h2).alloc (Nat.le_refl _) (.cells #[.int .i64 0, .int .i64 0] 51)
                      obtain ⟨gX, hgX⟩ : ∃ g, g = Y31h2.heap.size := ⟨_, rfl⟩
                      have hg0X : V502.heap.size ≤ gX := by rw [hgX]; exact KB.out.size
                      replace OWq := lh (own_keep OWq.out hy)
                      replace HTq := lh (HTq.out.below hy)
                      replace K20 := lh (K20.out.below hy K20.out.lt)
                      replace KB := lh (KB.out.trans (hy.mono KB.out.size))
                      replace Y := lh (Y.out.below hy Y.out.lt)
                      rw [← hgX] at pb ⊢
                      have X := lh pb
                      clear pb hy hgX
                      generalize Y31h2.alloc (.cells #[.int .i64 0, .int .i64 0] 51) = Y31h3 at *
                      refine hK.out _ _ ⟨K20.out, OWq.out⟩ (fun _ => ?_)
                      clear hK KK
                      try simp only [Act.put, tS1, tS2, tS3]
                      have hlX := X.out.lt
                      have hne : gX ≠ gY := Blk.ne_ty X.out Y.out (by decide)
                      have hXY : gX < gY ∨ gY < gX := by omega
                      refine tkO 14 (fun KK hK => ?_)
                      rw [if_pos (by rfl)]
                      refine wp_blk_store 51 (.tmp 21) (.tmp 163) rfl pp rfl rfl X.out PY.out PZ.out PA.out ?_
                      intro Y31h4 hA hF hB
                      replace HTq := lh (HTq.out.belowB (hB (V502.heap.size) (by omega)) (by omega))
                      replace OWq := lh (own_blk_store OWq.out X.out (by decide) hF (hB 0 (Nat.zero_le _)).size)
                      replace K20 := lh (show Blk _ _ _ _ from (hF _ (by omega)).trans K20.out)
                      replace KB := lh (KB.out.trans (hB _ (by omega)))
                      replace Y := lh (show Blk _ _ _ _ from (hF _ (by omega)).trans Y.out)
                      replace X := lh hA
                      clear hA hF hB
                      refine hK.out _ _ ⟨K20.out, OWq.out⟩ (fun _ => ?_)
                      clear hK KK
                      try simp only [Act.put]
                      refine tkO 15 (fun KK hK => ?_)
                      rw [if_pos (by rfl)]
                      refine wp_blk_store 46 (.tmp 22) (.tmp 164) rfl sc rfl rfl Y.out SY.out SZ.out SA.out ?_
                      intro Y31h5 hA hF hB
                      replace HTq := lh (HTq.out.belowB (hB (V502.heap.size) (by omega)) (by omega))
                      replace OWq := lh (own_blk_store OWq.out Y.out (by decide) hF (hB 0 (Nat.zero_le _)).size)
                      replace K20 := lh (show Blk _ _ _ _ from (hF _ (by omega)).trans K20.out)
                      replace KB := lh (KB.out.trans (hB _ (by omega)))
                      replace X := lh (show Blk _ _ _ _ from (hF _ (by omega)).trans X.out)
                      replace Y := lh hA
                      clear hA hF hB
                      refine hK.out _ _ ⟨K20.out, OWq.out⟩ (fun _ => ?_)
                      clear hK KK
                      try simp only [Act.put]
                      refine tkA 16 (?_) ?_ ⟨K20.out, OWq.out⟩ ?_
                      rotate_left
                      · (intro w1 hS; go_simp; try with_reducible rfl)
                      simp only [Act.put, tS1, tS2, tS3]
                      refine wpAnyH_done (by kernel_rfl) ?_ _
                      go_wp2
                      go_meet
                      exact ⟨gX, gY, rfl, rfl, rfl, X.out, Y.out, by omega, by omega, KB.out⟩
                · skip
                  go_simp
                  have pb := Blk.new Y31h0 51 #[.int .i64 0, .int .i64 0]
                  have hy := (Below.refl Y31h0.heap.size Y31h0).alloc (Nat.le_refl _) (.cells #[.int .i64 0, .int .i64 0] 51)
                  obtain ⟨gX, hgX⟩ : ∃ g, g = Y31h0.heap.size := ⟨_, rfl⟩
                  have hg0X : V502.heap.size ≤ gX := by rw [hgX]; exact KB.out.size
                  replace OWq := lh (own_keep OWq.out hy)
                  replace HTq := lh (HTq.out.below hy)
                  replace K20 := lh (K20.out.below hy K20.out.lt)
                  replace KB := lh (KB.out.trans (hy.mono KB.out.size))
                  rw [← hgX] at pb ⊢
                  have X := lh pb
                  clear pb hy hgX
                  generalize Y31h0.alloc (.cells #[.int .i64 0, .int .i64 0] 51) = Y31h1 at *
                  refine hK.out _ _ ⟨K20.out, OWq.out⟩ (fun _ => ?_)
                  clear hK KK
                  try simp only [Act.put, tS1, tS2, tS3]
                  have hlX := X.out.lt
                  refine tkB 7 13 (fun KK hK => ?_) (fun KK hK => ?_)
                  · as_aux_lemma =>
                      skip
                      go_simp
                      refine (CL1.out Y31h1 HTq.out).mono ?_
                      rintro e Y31h2 ⟨rfl, hy⟩
                      replace OWq := lh (own_keep OWq.out hy)
                      replace HTq := lh (HTq.out.below hy)
                      replace K20 := lh (K20.out.below hy K20.out.lt)
                      replace KB := lh (KB.out.trans (hy.mono KB.out.size))
                      replace X := lh (X.out.below hy X.out.lt)
                      clear hy
                      refine hK.out _ _ ⟨K20.out, OWq.out⟩ (fun _ => ?_)
                      clear hK KK
                      try simp only [Act.put, tS1, tS2, tS3]
                      refine tkA 8 (?_) ?_ ⟨K20.out, OWq.out⟩ ?_
                      rotate_left
                      · (intro w1 hS; go_simp; try with_reducible rfl)
                      simp only [Act.put, tS1, tS2, tS3]
                      refine tkA 9 (?_) ?_ ⟨K20.out, OWq.out⟩ ?_
                      rotate_left
                      · (intro w1 hS; go_simp; try with_reducible rfl)
                      simp only [Act.put, tS1, tS2, tS3]
                      refine tkA 10 (?_) ?_ ⟨K20.out, OWq.out⟩ ?_
                      rotate_left
                      · (intro w1 hS; go_simp; try with_reducible rfl)
                      simp only [Act.put, tS1, tS2, tS3]
                      refine tkA 11 (?_) ?_ ⟨K20.out, OWq.out⟩ ?_
                      rotate_left
                      · (intro w1 hS; go_simp; try with_reducible rfl)
                      simp only [Act.put, tS1, tS2, tS3]
                      refine tkO 13 (fun KK hK => ?_)
                      go_simp
                      have pb := Blk.new Y31h2 46 zCe
                      have hy := (Below.refl Y31h2.heap.size Y31h2).alloc (Nat.le_refl _) (.cells zCe 46)
                      obtain ⟨gY, hgY⟩ : ∃ g, g = Y31h2.heap.size := ⟨_, rfl⟩
                      have hg0Y : V502.heap.size ≤ gY := by rw [hgY]; exact KB.out.size
                      replace OWq := lh (own_keep OWq.out hy)
                      replace HTq := lh (HTq.out.below hy)
                      replace K20 := lh (K20.out.below hy K20.out.lt)
                      replace KB := lh (KB.out.trans (hy.mono KB.out.size))
                      replace X := lh (X.out.below hy X.out.lt)
                      rw [← hgY] at pb ⊢
                      have Y := lh pb
                      clear pb hy hgY
                      generalize Y31h2.alloc (.cells zCe 46) = Y31h3 at *
                      refine hK.out _ _ ⟨K20.out, OWq.out⟩ (fun _ => ?_)
                      clear hK KK
                      try simp only [Act.put, tS1, tS2, tS3]
                      have hlY := Y.out.lt
                      have hne : gX ≠ gY := Blk.ne_ty X.out Y.out (by decide)
                      have hXY : gX < gY ∨ gY < gX := by omega
                      refine tkO 14 (fun KK hK => ?_)
                      rw [if_pos (by rfl)]
                      refine wp_blk_store 51 (.tmp 21) (.tmp 163) rfl pp rfl rfl X.out PY.out PZ.out PA.out ?_
                      intro Y31h4 hA hF hB
                      replace HTq := lh (HTq.out.belowB (hB (V502.heap.size) (by omega)) (by omega))
                      replace OWq := lh (own_blk_store OWq.out X.out (by decide) hF (hB 0 (Nat.zero_le _)).size)
                      replace K20 := lh (show Blk _ _ _ _ from (hF _ (by omega)).trans K20.out)
                      replace KB := lh (KB.out.trans (hB _ (by omega)))
                      replace Y := lh (show Blk _ _ _ _ from (hF _ (by omega)).trans Y.out)
                      replace X := lh hA
                      clear hA hF hB
                      refine hK.out _ _ ⟨K20.out, OWq.out⟩ (fun _ => ?_)
                      clear hK KK
                      try simp only [Act.put]
                      refine tkO 15 (fun KK hK => ?_)
                      rw [if_pos (by rfl)]
                      refine wp_blk_store 46 (.tmp 22) (.tmp 164) rfl sc rfl rfl Y.out SY.out SZ.out SA.out ?_
                      intro Y31h5 hA hF hB
                      replace HTq := lh (HTq.out.belowB (hB (V502.heap.size) (by omega)) (by omega))
                      replace OWq := lh (own_blk_store OWq.out Y.out (by decide) hF (hB 0 (Nat.zero_le _)).size)
                      replace K20 := lh (show Blk _ _ _ _ from (hF _ (by omega)).trans K20.out)
                      replace KB := lh (KB.out.trans (hB _ (by omega)))
                      replace X := lh (show Blk _ _ _ _ from (hF _ (by omega)).trans X.out)
                      replace Y := lh hA
                      clear hA hF hB
                      refine hK.out _ _ ⟨K20.out, OWq.out⟩ (fun _ => ?_)
                      clear hK KK
                      try simp only [Act.put]
                      refine tkA 16 (?_) ?_ ⟨K20.out, OWq.out⟩ ?_
                      rotate_left
                      · (intro w1 hS; go_simp; try with_reducible rfl)
                      simp only [Act.put, tS1, tS2, tS3]
                      refine wpAnyH_done (by kernel_rfl) ?_ _
                      go_wp2
                      go_meet
                      exact ⟨gX, gY, rfl, rfl, rfl, X.out, Y.out, by omega, by omega, KB.out⟩
                  · as_aux_lemma =>
                      skip
                      go_simp
                      have pb := Blk.new Y31h1 46 zCe
                      have hy := (Below.refl Y31h1.heap.size Y31h1).alloc (Nat.le_refl _) (.cells zCe 46)
                      obtain ⟨gY, hgY⟩ : ∃ g, g = Y31h1.heap.size := ⟨_, rfl⟩
                      have hg0Y : V502.heap.size ≤ gY := by rw [hgY]; exact KB.out.size
                      replace OWq := lh (own_keep OWq.out hy)
                      replace HTq := lh (HTq.out.below hy)
                      replace K20 := lh (K20.out.below hy K20.out.lt)
                      replace KB := lh (KB.out.trans (hy.mono KB.out.size))
                      replace X := lh (X.out.below hy X.out.lt)
                      rw [← hgY] at pb ⊢
                      have Y := lh pb
                      clear pb hy hgY
                      generalize Y31h1.alloc (.cells zCe 46) = Y31h2 at *
                      refine hK.out _ _ ⟨K20.out, OWq.out⟩ (fun _ => ?_)
                      clear hK KK
                      try simp only [Act.put, tS1, tS2, tS3]
                      have hlY := Y.out.lt
                      refine tkO 7 (fun KK hK => ?_)
                      go_simp
                      refine (CL1.out Y31h2 HTq.out).mono ?_
                      rintro e Y31h3 ⟨rfl, hy⟩
                      replace OWq := lh (own_keep OWq.out hy)
                      replace HTq := lh (HTq.out.below hy)
                      replace K20 := lh (K20.out.below hy K20.out.lt)
                      replace KB := lh (KB.out.trans (hy.mono KB.out.size))
                      replace X := lh (X.out.below hy X.out.lt)
                      replace Y := lh (Y.out.below hy Y.out.lt)
                      clear hy
                      refine hK.out _ _ ⟨K20.out, OWq.out⟩ (fun _ => ?_)
                      clear hK KK
                      try simp only [Act.put, tS1, tS2, tS3]
                      refine tkA 8 (?_) ?_ ⟨K20.out, OWq.out⟩ ?_
                      rotate_left
                      · (intro w1 hS; go_simp; try with_reducible rfl)
                      simp only [Act.put, tS1, tS2, tS3]
                      refine tkA 9 (?_) ?_ ⟨K20.out, OWq.out⟩ ?_
                      rotate_left
                      · (intro w1 hS; go_simp; try with_reducible rfl)
                      simp only [Act.put, tS1, tS2, tS3]
                      refine tkA 10 (?_) ?_ ⟨K20.out, OWq.out⟩ ?_
                      rotate_left
                      · (intro w1 hS; go_simp; try with_reducible rfl)
                      simp only [Act.put, tS1, tS2, tS3]
                      refine tkA 11 (?_) ?_ ⟨K20.out, OWq.out⟩ ?_
                      rotate_left
                      · (intro w1 hS; go_simp; try with_reducible rfl)
                      simp only [Act.put, tS1, tS2, tS3]
                      have hne : gX ≠ gY := Blk.ne_ty X.out Y.out (by decide)
                      have hXY : gX < gY ∨ gY < gX := by omega
                      refine tkO 14 (fun KK hK => ?_)
                      rw [if_pos (by rfl)]
                      refine wp_blk_store 51 (.tmp 21) (.tmp 163) rfl pp rfl rfl X.out PY.out PZ.out PA.out ?_
                      intro Y31h4 hA hF hB
                      replace HTq := lh (HTq.out.belowB (hB (V502.heap.size) (by omega)) (by omega))
                      replace OWq := lh (own_blk_store OWq.out X.out (by decide) hF (hB 0 (Nat.zero_le _)).size)
                      replace K20 := lh (show Blk _ _ _ _ from (hF _ (by omega)).trans K20.out)
                      replace KB := lh (KB.out.trans (hB _ (by omega)))
                      replace Y := lh (show Blk _ _ _ _ from (hF _ (by omega)).trans Y.out)
                      replace X := lh hA
                      clear hA hF hB
                      refine hK.out _ _ ⟨K20.out, OWq.out⟩ (fun _ => ?_)
                      clear hK KK
                      try simp only [Act.put]
                      refine tkO 15 (fun KK hK => ?_)
                      rw [if_pos (by rfl)]
                      refine wp_blk_store 46 (.tmp 22) (.tmp 164) rfl sc rfl rfl Y.out SY.out SZ.out SA.out ?_
                      intro Y31h5 hA hF hB
                      replace HTq := lh (HTq.out.belowB (hB (V502.heap.size) (by omega)) (by omega))
                      replace OWq := lh (own_blk_store OWq.out Y.out (by decide) hF (hB 0 (Nat.zero_le _)).size)
                      replace K20 := lh (show Blk _ _ _ _ from (hF _ (by omega)).trans K20.out)
                      replace KB := lh (KB.out.trans (hB _ (by omega)))
                      replace X := lh (show Blk _ _ _ _ from (hF _ (by omega)).trans X.out)
                      replace Y := lh hA
                      clear hA hF hB
                      refine hK.out _ _ ⟨K20.out, OWq.out⟩ (fun _ => ?_)
                      clear hK KK
                      try simp only [Act.put]
                      refine tkA 16 (?_) ?_ ⟨K20.out, OWq.out⟩ ?_
                      rotate_left
                      · (intro w1 hS; go_simp; try with_reducible rfl)
                      simp only [Act.put, tS1, tS2, tS3]
                      refine wpAnyH_done (by kernel_rfl) ?_ _
                      go_wp2
                      go_meet
                      exact ⟨gX, gY, rfl, rfl, rfl, X.out, Y.out, by omega, by omega, KB.out⟩
                · skip
                  go_simp
                  have pb := Blk.new Y31h0 46 zCe
                  have hy := (Below.refl Y31h0.heap.size Y31h0).alloc (Nat.le_refl _) (.cells zCe 46)
                  obtain ⟨gY, hgY⟩ : ∃ g, g = Y31h0.heap.size := ⟨_, rfl⟩
                  have hg0Y : V502.heap.size ≤ gY := by rw [hgY]; exact KB.out.size
                  replace OWq := lh (own_keep OWq.out hy)
                  replace HTq := lh (HTq.out.below hy)
                  replace K20 := lh (K20.out.below hy K20.out.lt)
                  replace KB := lh (KB.out.trans (hy.mono KB.out.size))
                  rw [← hgY] at pb ⊢
                  have Y := lh pb
                  clear pb hy hgY
                  generalize Y31h0.alloc (.cells zCe 46) = Y31h1 at *
                  refine hK.out _ _ ⟨K20.out, OWq.out⟩ (fun _ => ?_)
                  clear hK KK
                  try simp only [Act.put, tS1, tS2, tS3]
                  have hlY := Y.out.lt
                  refine tkB 7 12 (fun KK hK => ?_) (fun KK hK => ?_)
                  · as_aux_lemma =>
                      skip
                      go_simp
                      refine (CL1.out Y31h1 HTq.out).mono ?_
                      rintro e Y31h2 ⟨rfl, hy⟩
                      replace OWq := lh (own_keep OWq.out hy)
                      replace HTq := lh (HTq.out.below hy)
                      replace K20 := lh (K20.out.below hy K20.out.lt)
                      replace KB := lh (KB.out.trans (hy.mono KB.out.size))
                      replace Y := lh (Y.out.below hy Y.out.lt)
                      clear hy
                      refine hK.out _ _ ⟨K20.out, OWq.out⟩ (fun _ => ?_)
                      clear hK KK
                      try simp only [Act.put, tS1, tS2, tS3]
                      refine tkA 8 (?_) ?_ ⟨K20.out, OWq.out⟩ ?_
                      rotate_left
                      · (intro w1 hS; go_simp; try with_reducible rfl)
                      simp only [Act.put, tS1, tS2, tS3]
                      refine tkA 9 (?_) ?_ ⟨K20.out, OWq.out⟩ ?_
                      rotate_left
                      · (intro w1 hS; go_simp; try with_reducible rfl)
                      simp only [Act.put, tS1, tS2, tS3]
                      refine tkA 10 (?_) ?_ ⟨K20.out, OWq.out⟩ ?_
                      rotate_left
                      · (intro w1 hS; go_simp; try with_reducible rfl)
                      simp only [Act.put, tS1, tS2, tS3]
                      refine tkA 11 (?_) ?_ ⟨K20.out, OWq.out⟩ ?_
                      rotate_left
                      · (intro w1 hS; go_simp; try with_reducible rfl)
                      simp only [Act.put, tS1, tS2, tS3]
                      refine tkO 12 (fun KK hK => ?_)
                      go_simp
                      have pb := Blk.new Y31h2 51 #[.int .i64 0, .int .i64 0]
                      have hy := (Below.refl Y31h2.heap.size Y31h2).alloc (Nat.le_refl _) (.cells #[.int .i64 0, .int .i64 0] 51)
                      obtain ⟨gX, hgX⟩ : ∃ g, g = Y31h2.heap.size := ⟨_, rfl⟩
                      have hg0X : V502.heap.size ≤ gX := by rw [hgX]; exact KB.out.size
                      replace OWq := lh (own_keep OWq.out hy)
                      replace HTq := lh (HTq.out.below hy)
                      replace K20 := lh (K20.out.below hy K20.out.lt)
                      replace KB := lh (KB.out.trans (hy.mono KB.out.size))
                      replace Y := lh (Y.out.below hy Y.out.lt)
                      rw [← hgX] at pb ⊢
                      have X := lh pb
                      clear pb hy hgX
                      generalize Y31h2.alloc (.cells #[.int .i64 0, .int .i64 0] 51) = Y31h3 at *
                      refine hK.out _ _ ⟨K20.out, OWq.out⟩ (fun _ => ?_)
                      clear hK KK
                      try simp only [Act.put, tS1, tS2, tS3]
                      have hlX := X.out.lt
                      have hne : gX ≠ gY := Blk.ne_ty X.out Y.out (by decide)
                      have hXY : gX < gY ∨ gY < gX := by omega
                      refine tkO 14 (fun KK hK => ?_)
                      rw [if_pos (by rfl)]
                      refine wp_blk_store 51 (.tmp 21) (.tmp 163) rfl pp rfl rfl X.out PY.out PZ.out PA.out ?_
                      intro Y31h4 hA hF hB
                      replace HTq := lh (HTq.out.belowB (hB (V502.heap.size) (by omega)) (by omega))
                      replace OWq := lh (own_blk_store OWq.out X.out (by decide) hF (hB 0 (Nat.zero_le _)).size)
                      replace K20 := lh (show Blk _ _ _ _ from (hF _ (by omega)).trans K20.out)
                      replace KB := lh (KB.out.trans (hB _ (by omega)))
                      replace Y := lh (show Blk _ _ _ _ from (hF _ (by omega)).trans Y.out)
                      replace X := lh hA
                      clear hA hF hB
                      refine hK.out _ _ ⟨K20.out, OWq.out⟩ (fun _ => ?_)
                      clear hK KK
                      try simp only [Act.put]
                      refine tkO 15 (fun KK hK => ?_)
                      rw [if_pos (by rfl)]
                      refine wp_blk_store 46 (.tmp 22) (.tmp 164) rfl sc rfl rfl Y.out SY.out SZ.out SA.out ?_
                      intro Y31h5 hA hF hB
                      replace HTq := lh (HTq.out.belowB (hB (V502.heap.size) (by omega)) (by omega))
                      replace OWq := lh (own_blk_store OWq.out Y.out (by decide) hF (hB 0 (Nat.zero_le _)).size)
                      replace K20 := lh (show Blk _ _ _ _ from (hF _ (by omega)).trans K20.out)
                      replace KB := lh (KB.out.trans (hB _ (by omega)))
                      replace X := lh (show Blk _ _ _ _ from (hF _ (by omega)).trans X.out)
                      replace Y := lh hA
                      clear hA hF hB
                      refine hK.out _ _ ⟨K20.out, OWq.out⟩ (fun _ => ?_)
                      clear hK KK
                      try simp only [Act.put]
                      refine tkA 16 (?_) ?_ ⟨K20.out, OWq.out⟩ ?_
                      rotate_left
                      · (intro w1 hS; go_simp; try with_reducible rfl)
                      simp only [Act.put, tS1, tS2, tS3]
                      refine wpAnyH_done (by kernel_rfl) ?_ _
                      go_wp2
                      go_meet
                      exact ⟨gX, gY, rfl, rfl, rfl, X.out, Y.out, by omega, by omega, KB.out⟩
                  · as_aux_lemma =>
                      skip
                      go_simp
                      have pb := Blk.new Y31h1 51 #[.int .i64 0, .int .i64 0]
                      have hy := (Below.refl Y31h1.heap.size Y31h1).alloc (Nat.le_refl _) (.cells #[.int .i64 0, .int .i64 0] 51)
                      obtain ⟨gX, hgX⟩ : ∃ g, g = Y31h1.heap.size := ⟨_, rfl⟩
                      have hg0X : V502.heap.size ≤ gX := by rw [hgX]; exact KB.out.size
                      replace OWq := lh (own_keep OWq.out hy)
                      replace HTq := lh (HTq.out.below hy)
                      replace K20 := lh (K20.out.below hy K20.out.lt)
                      replace KB := lh (KB.out.trans (hy.mono KB.out.size))
                      replace Y := lh (Y.out.below hy Y.out.lt)
                      rw [← hgX] at pb ⊢
                      have X := lh pb
                      clear pb hy hgX
                      generalize Y31h1.alloc (.cells #[.int .i64 0, .int .i64 0] 51) = Y31h2 at *
                      refine hK.out _ _ ⟨K20.out, OWq.out⟩ (fun _ => ?_)
                      clear hK KK
                      try simp only [Act.put, tS1, tS2, tS3]
                      have hlX := X.out.lt
                      refine tkO 7 (fun KK hK => ?_)
                      go_simp
                      refine (CL1.out Y31h2 HTq.out).mono ?_
                      rintro e Y31h3 ⟨rfl, hy⟩
                      replace OWq := lh (own_keep OWq.out hy)
                      replace HTq := lh (HTq.out.below hy)
                      replace K20 := lh (K20.out.below hy K20.out.lt)
                      replace KB := lh (KB.out.trans (hy.mono KB.out.size))
                      replace Y := lh (Y.out.below hy Y.out.lt)
                      replace X := lh (X.out.below hy X.out.lt)
                      clear hy
                      refine hK.out _ _ ⟨K20.out, OWq.out⟩ (fun _ => ?_)
                      clear hK KK
                      try simp only [Act.put, tS1, tS2, tS3]
                      refine tkA 8 (?_) ?_ ⟨K20.out, OWq.out⟩ ?_
                      rotate_left
                      · (intro w1 hS; go_simp; try with_reducible rfl)
                      simp only [Act.put, tS1, tS2, tS3]
                      refine tkA 9 (?_) ?_ ⟨K20.out, OWq.out⟩ ?_
                      rotate_left
                      · (intro w1 hS; go_simp; try with_reducible rfl)
                      simp only [Act.put, tS1, tS2, tS3]
                      refine tkA 10 (?_) ?_ ⟨K20.out, OWq.out⟩ ?_
                      rotate_left
                      · (intro w1 hS; go_simp; try with_reducible rfl)
                      simp only [Act.put, tS1, tS2, tS3]
                      refine tkA 11 (?_) ?_ ⟨K20.out, OWq.out⟩ ?_
                      rotate_left
                      · (intro w1 hS; go_simp; try with_reducible rfl)
                      simp only [Act.put, tS1, tS2, tS3]
                      have hne : gX ≠ gY := Blk.ne_ty X.out Y.out (by decide)
                      have hXY : gX < gY ∨ gY < gX := by omega
                      refine tkO 14 (fun KK hK => ?_)
                      rw [if_pos (by rfl)]
                      refine wp_blk_store 51 (.tmp 21) (.tmp 163) rfl pp rfl rfl X.out PY.out PZ.out PA.out ?_
                      intro Y31h4 hA hF hB
                      replace HTq := lh (HTq.out.belowB (hB (V502.heap.size) (by omega)) (by omega))
                      replace OWq := lh (own_blk_store OWq.out X.out (by decide) hF (hB 0 (Nat.zero_le _)).size)
                      replace K20 := lh (show Blk _ _ _ _ from (hF _ (by omega)).trans K20.out)
                      replace KB := lh (KB.out.trans (hB _ (by omega)))
                      replace Y := lh (show Blk _ _ _ _ from (hF _ (by omega)).trans Y.out)
                      replace X := lh hA
                      clear hA hF hB
                      refine hK.out _ _ ⟨K20.out, OWq.out⟩ (fun _ => ?_)
                      clear hK KK
                      try simp only [Act.put]
                      refine tkO 15 (fun KK hK => ?_)
                      rw [if_pos (by rfl)]
                      refine wp_blk_store 46 (.tmp 22) (.tmp 164) rfl sc rfl rfl Y.out SY.out SZ.out SA.out ?_
                      intro Y31h5 hA hF hB
                      replace HTq := lh (HTq.out.belowB (hB (V502.heap.size) (by omega)) (by omega))
                      replace OWq := lh (own_blk_store OWq.out Y.out (by decide) hF (hB 0 (Nat.zero_le _)).size)
                      replace K20 := lh (show Blk _ _ _ _ from (hF _ (by omega)).trans K20.out)
                      replace KB := lh (KB.out.trans (hB _ (by omega)))
                      replace X := lh (show Blk _ _ _ _ from (hF _ (by omega)).trans X.out)
                      replace Y := lh hA
                      clear hA hF hB
                      refine hK.out _ _ ⟨K20.out, OWq.out⟩ (fun _ => ?_)
                      clear hK KK
                      try simp only [Act.put]
                      refine tkA 16 (?_) ?_ ⟨K20.out, OWq.out⟩ ?_
                      rotate_left
                      · (intro w1 hS; go_simp; try with_reducible rfl)
                      simp only [Act.put, tS1, tS2, tS3]
                      refine wpAnyH_done (by kernel_rfl) ?_ _
                      go_wp2
                      go_meet
                      exact ⟨gX, gY, rfl, rfl, rfl, X.out, Y.out, by omega, by omega, KB.out⟩
              case rest =>
                obtain ⟨gP, gC, rfl, rfl, rfl, hP, hC, hgP, hgC, hy⟩ := hcut
                replace OWq := lh (own_keep OWq.out hy)
                replace HTq := lh (HTq.out.below hy)
                replace KL := lh (KL.out.trans (hy.mono KL.out.size))
                replace K20 := lh (K20.out.below hy K20.out.lt)
                have X21 := lh hP
                have X22 := lh hC
                clear hP hC hy CL1 SY PY PA SA
                have h4w := HTq.out.lt
                have L5 : (loadVar 51 ⟨gP, 0, none⟩).run Try.prog wc = .ok (.agg pp) wc := run_blk_load (P := Try.prog) 51 (gP) _ X21.out Try.underlying51 rfl PZ.out
                replace L5 := lh L5
                go_wp2_with (((with_reducible refine wpList_load_want (op := ⟨some 168, .load 51 (.tmp 21), _, _, _, _⟩) ?wg5 51 (.tmp 21) ?wo5 ⟨gP, 0, none⟩ ?wx5 (.agg pp) L5.out ?_); (case wg5 => rfl); (case wo5 => rfl); (case wx5 => rfl)))
                clear L5
                refine (CO1.out wc HTq.out).mono ?_
                rintro e V503 ⟨rfl, hy⟩
                replace OWq := lh (own_keep OWq.out hy)
                replace HTq := lh (HTq.out.below hy)
                replace KL := lh (KL.out.trans (hy.mono KL.out.size))
                replace K20 := lh (K20.out.below hy K20.out.lt)
                replace X21 := lh (X21.out.below hy X21.out.lt)
                replace X22 := lh (X22.out.below hy X22.out.lt)
                have h4x := HTq.out.lt
                have h2x := X21.out.lt
                have h3x := X22.out.lt
                have h5x := K20.out.lt
                clear hy
                go_wp2_with (((with_reducible refine wpList_blk_store (op := ⟨none, .store 42 (.tmp 24) (.tmp 170), _, _, _, _⟩) ?sg6 42 (.tmp 24) (.tmp 170) ?so6 (V503.heap.size) kc ?sx6 ?sy6 (Blk.new V503 42 ZK) KY.out KZ.out KA.out ?_); (case sg6 => rfl); (case so6 => rfl); (case sx6 => rfl); (case sy6 => rfl)))
                have qK20X24 : g20 < V503.heap.size := K20.out.lt
                have qX21X24 : gP < V503.heap.size := X21.out.lt
                have qX22X24 : gC < V503.heap.size := X22.out.lt
                intro V504 hA hF hB
                have hy := ((Below.refl V503.heap.size V503).alloc (Nat.le_refl _) (.cells ZK 42)).trans (hB _ (Nat.le_refl _))
                replace OWq := lh (own_keep OWq.out hy)
                replace HTq := lh (HTq.out.below hy)
                replace KL := lh (KL.out.trans (hy.mono KL.out.size))
                replace K20 := lh (K20.out.below hy K20.out.lt)
                replace X21 := lh (X21.out.below hy X21.out.lt)
                replace X22 := lh (X22.out.below hy X22.out.lt)
                have X24 := lh hA
                clear hA hF hB hy
                go_upto_region 33 with fail
                refine wp_region_held (S := (fun w' : World => Below (V504.heap.size) V504 w')) (by kernel_rfl) ?_
                change wpAnyH _ _ _ _ _ _ _ _ V504.drew
                have hy : Below V504.heap.size V504 V504.drew := (Below.refl _ _).drew
                have hE0 : Below (V504.heap.size) V504 V504.drew := (Below.refl _ _).drew
                clear hy
                generalize V504.drew = Y33x0 at hE0  ⊢
                have E0 := lh hE0
                clear hE0
                refine tkA 0 (?_) ?_ E0.out ?_
                rotate_left
                · (intro w1 hS; go_simp; try with_reducible rfl)
                simp only [Act.put, tS1, tS2, tS3]
                refine tkA 1 (?_) ?_ E0.out ?_
                rotate_left
                · (intro w1 hS; go_simp; try with_reducible rfl)
                simp only [Act.put, tS1, tS2, tS3]
                refine tkA 2 (?_) ?_ E0.out ?_
                rotate_left
                · (intro w1 hS; go_simp; try with_reducible rfl)
                simp only [Act.put, tS1, tS2, tS3]
                refine tkA 3 (?_) ?_ E0.out ?_
                rotate_left
                · (intro w1 hS; go_simp; try with_reducible rfl)
                simp only [Act.put, tS1, tS2, tS3]
                refine tkA 4 (?_) ?_ E0.out ?_
                rotate_left
                · (intro w1 hS; go_simp; try with_reducible rfl)
                simp only [Act.put, tS1, tS2, tS3]
                refine tkA 5 (?_) ?_ E0.out ?_
                rotate_left
                · (intro w1 hS; go_simp; try with_reducible rfl)
                simp only [Act.put, tS1, tS2, tS3]
                refine tkA 6 (?_) ?_ E0.out ?_
                rotate_left
                · (intro w1 hS; go_simp; try with_reducible rfl)
                simp only [Act.put, tS1, tS2, tS3]
                refine tkA 7 (.agg kc) ?_ E0.out ?_
                · (intro w1 hS; have hW := hS; exact exec_load 42 (.tmp 24) rfl _ rfl _ (run_blk_load (P := Try.prog) 42 (V503.heap.size) _ (X24.out.below hW X24.out.lt) Try.underlying42 rfl KZ.out))
                simp only [Act.put, tS1, tS2, tS3]
                refine tkA 8 (.agg kc) ?_ E0.out ?_
                · (intro w1 hS; have hW := hS; exact exec_load 42 (.tmp 20) rfl _ rfl _ (run_blk_load (P := Try.prog) 42 (g20) _ (K20.out.below hW K20.out.lt) Try.underlying42 rfl KZ.out))
                simp only [Act.put, tS1, tS2, tS3]
                refine tkA 9 (.bool false) ?_ E0.out ?_
                · (intro w1 hS; have hW := hS; exact exec_neq42 (.tmp 179) (.tmp 180) rfl _ _ rfl rfl true (EQK.out _))
                simp only [Act.put, tS1, tS2, tS3]
                refine tkA 10 (?_) ?_ E0.out ?_
                rotate_left
                · (intro w1 hS; go_simp; try with_reducible rfl)
                simp only [Act.put, tS1, tS2, tS3]
                refine tkA 11 (?_) ?_ E0.out ?_
                rotate_left
                · (intro w1 hS; go_simp; try with_reducible rfl)
                simp only [Act.put, tS1, tS2, tS3]
                refine tkA 12 (?_) ?_ E0.out ?_
                rotate_left
                · (intro w1 hS; go_simp; try with_reducible rfl)
                simp only [Act.put, tS1, tS2, tS3]
                refine tkA 13 (?_) ?_ E0.out ?_
                rotate_left
                · (intro w1 hS; have hW := hS; have q := ((X22.out.below hW X22.out.lt).cell 3).trans S3.out; clear hW hS; go_simp; try with_reducible rfl)
                simp only [Act.put, tS1, tS2, tS3]
                refine tkA 14 (?_) ?_ E0.out ?_
                rotate_left
                · (intro w1 hS; go_simp; try with_reducible rfl)
                simp only [Act.put, tS1, tS2, tS3]
                refine tkA 15 (?_) ?_ E0.out ?_
                rotate_left
                · (intro w1 hS; go_simp; try with_reducible rfl)
                simp only [Act.put, tS1, tS2, tS3]
                refine tkA 16 (?_) ?_ E0.out ?_
                rotate_left
                · (intro w1 hS; go_simp; try with_reducible rfl)
                simp only [Act.put, tS1, tS2, tS3]
                refine tkA 17 (?_) ?_ E0.out ?_
                rotate_left
                · (intro w1 hS; have hW := hS; have q := CKK.out w1 _ _ (own_keep OWq.out hW); clear hW hS; go_simp; try with_reducible rfl)
                simp only [Act.put, tS1, tS2, tS3]
                refine tkA 18 (?_) ?_ E0.out ?_
                rotate_left
                · (intro w1 hS; go_simp; try with_reducible rfl)
                simp only [Act.put, tS1, tS2, tS3]
                refine tkA 19 (?_) ?_ E0.out ?_
                rotate_left
                · (intro w1 hS; go_simp; try with_reducible rfl)
                simp only [Act.put, tS1, tS2, tS3]
                refine tkA 20 (?_) ?_ E0.out ?_
                rotate_left
                · (intro w1 hS; go_simp; try with_reducible rfl)
                simp only [Act.put, tS1, tS2, tS3]
                refine tkA 21 (?_) ?_ E0.out ?_
                rotate_left
                · (intro w1 hS; go_simp; try with_reducible rfl)
                simp only [Act.put, tS1, tS2, tS3]
                refine tkA 22 (?_) ?_ E0.out ?_
                rotate_left
                · (intro w1 hS; go_simp; try with_reducible rfl)
                simp only [Act.put, tS1, tS2, tS3]
                refine tkA 23 (?_) ?_ E0.out ?_
                rotate_left
                · (intro w1 hS; have hW := hS; have q := ((X22.out.below hW X22.out.lt).cell 2).trans S2.out; clear hW hS; go_simp; try with_reducible rfl)
                simp only [Act.put, tS1, tS2, tS3]
                refine tkA 24 (?_) ?_ E0.out ?_
                rotate_left
                · (intro w1 hS; go_simp; try with_reducible rfl)
                simp only [Act.put, tS1, tS2, tS3]
                refine tkA 25 (?_) ?_ E0.out ?_
                rotate_left
                · (intro w1 hS; go_simp; try with_reducible rfl)
                simp only [Act.put, tS1, tS2, tS3]
                refine tkA 26 (?_) ?_ E0.out ?_
                rotate_left
                · (intro w1 hS; go_simp; try with_reducible rfl)
                simp only [Act.put, tS1, tS2, tS3]
                refine tkA 27 (?_) ?_ E0.out ?_
                rotate_left
                · (intro w1 hS; have hW := hS; have q := CKK.out w1 _ _ (own_keep OWq.out hW); clear hW hS; go_simp; try with_reducible rfl)
                simp only [Act.put, tS1, tS2, tS3]
                refine tkA 28 (?_) ?_ E0.out ?_
                rotate_left
                · (intro w1 hS; go_simp; try with_reducible rfl)
                simp only [Act.put, tS1, tS2, tS3]
                refine tkA 29 (?_) ?_ E0.out ?_
                rotate_left
                · (intro w1 hS; go_simp; try with_reducible rfl)
                simp only [Act.put, tS1, tS2, tS3]
                refine tkA 30 (?_) ?_ E0.out ?_
                rotate_left
                · (intro w1 hS; go_simp; try with_reducible rfl)
                simp only [Act.put, tS1, tS2, tS3]
                refine wpAnyH_done (by kernel_rfl) ?_ _
                have hy := E0.out
                replace OWq := lh (own_keep OWq.out hy)
                replace HTq := lh (HTq.out.below hy)
                replace KL := lh (KL.out.trans (hy.mono KL.out.size))
                replace K20 := lh (K20.out.below hy K20.out.lt)
                replace X21 := lh (X21.out.below hy X21.out.lt)
                replace X22 := lh (X22.out.below hy X22.out.lt)
                replace X24 := lh (X24.out.below hy X24.out.lt)
                clear hy E0
                go_wp2
                go_roundw
                case rel => exact ⟨q + 1, hlt3, by go_num, KL⟩
                case measure => simp [RowKit.intOf]; omega
          · have g1 : decide ((q : Int) < (L2.length : Int)) = false := decide_eq_false (by omega)
            have g2 : decide (q < L2.length) = false := decide_eq_false hlt3
            go_wp2
            go_roundw
            case rel => exact ⟨j + 1, c2, L2, hlt, hLj2, by go_num, HTq, HFI, OWq, Kq, hbq⟩
            case measure => simp [RowKit.intOf]; omega
    · have d1 : decide ((j : Int) < (lm : Int) + (lo : Int)) = false := decide_eq_false (by omega)
      have d2 : decide (j < lm + lo) = false := decide_eq_false hlt
      go_wp2_with fail
      refine (AW.out wr).mono ?_
      rintro e V901 ⟨rfl, hy⟩
      replace Kr := lh (Kr.out.trans (hy.mono Kr.out.size))
      clear hy
      go_wp2
      go_ret
      exact ⟨rfl, Kr.out⟩
end Go.Proofs.Ythldpnifodbheaa
