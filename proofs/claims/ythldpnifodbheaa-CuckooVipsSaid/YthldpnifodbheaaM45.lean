/- Texts that the walks of this seat lean on, put together. -/
import Derived.Deep.CutBlock
import Derived.Deep.DeepCutAuto
import Derived.LoopTactic
import Derived.Handy
import Derived.Test.YthldpnifodbheaaTk
import Derived.Test.YthldpnifodbheaaM42
import Derived.Test.YthldpnifodbheaaM43
import Derived.Test.YthldpnifodbheaaM44
namespace Go.Proofs.Ythldpnifodbheaa
open Go.RowKit Go.Lib
def rcS : Option Se → Array Value | none => zCe | some s => s.ce
theorem rC_map (o : Option (Pl × Se)) : rC o = rcS (o.map (·.2)) := by cases o <;> rfl
theorem rcS_size (o : Option Se) : (rcS o).size = zCe.size := by cases o <;> rfl
theorem rcS_all (o : Option Se) : (rcS o).all (·.oneCell') = true := by cases o <;> exact ceC_all _ _ _ _
theorem rcS_eq (o : Option Se) (h : ∀ s, o = some s → s.d < 65536 ∧ (Lit.int .i64 s.v).wf = true ∧ (Lit.int .i64 s.r).wf = true) (w : World) : (Op.equalIn 10000 46 (.agg (rcS o)) (.agg (rcS o))).run Try.prog w = .ok true w := by
  cases o with
  | none =>
    have z := i64_wf 0 (by decide) (by decide)
    exact (eq_ce false false 0 0 0 0 0 0 (by decide) (by decide) z z z z w).trans (by simp)
  | some s =>
    obtain ⟨a, b, c⟩ := h s rfl
    exact (eq_ce true true s.d s.d s.v s.v s.r s.r a a b b c c w).trans (by simp)
theorem guard46 (op : BinOp) (x y : Operand) (A B : Array Value) (w : World) (hop : op = .eql ∨ op = .neq) : (eqGuard op 46 x y (.agg A) (.agg B)).run Try.prog w = .ok () w := by
  unfold eqGuard
  rcases hop with rfl | rfl <;> simp
theorem exec_neq46 {w : World} {o : Oper} {a : Act} (x y : Operand) (ho : o.op = .binOp .neq 46 x y 46) (A B : Array Value) (hx : a.eval x = .agg A) (hy : a.eval y = .agg B) (r : Bool) (hq : (Op.equalIn Op.maxDepth 46 (.agg A) (.agg B)).run Try.prog w = .ok r w) : (execOp a.eval o).run Try.prog w = .ok (.value (.bool (!r))) w := by
  unfold execOp
  simp only [ho, hx, hy, binOp, Op.equal, Sem.run_bind, guard46 _ x y A B w (.inr rfl), hq, Result.andThen_ok, Sem.run_pure]
set_option maxRecDepth 100000 in
set_option maxHeartbeats 4000000 in
theorem vips_walk (va vn : Value) (zs ns : List Int) (w : World) (hva : Rd w va (ivs zs)) (hvn : Rd w vn (ivs ns)) :
    Calls Try.prog 5 #[va, vn] w fun e w' => e = .returned (.bool true) ∧ Below w.heap.size w w' := by
  have K := Lib.hid (Below.refl w.heap.size w)
  have AW := Lib.hid awake_any
  have HV := Lib.hid hva
  have HN := Lib.hid hvn
  have CC := Lib.hid (fun v W h => config_any v zs W h)
  have CRD := Lib.hid (fun (k : Int) W => round_any k 9 W (by decide) (by decide))
  have CFL := Lib.hid (fun (m : Int) W => flow_any m false false W)
  obtain ⟨a, cap, rfl, -, -⟩ := rdI_shape hva
  obtain ⟨b, cap2, rfl, -, -⟩ := rdI_shape hvn
  obtain ⟨ln, hln⟩ : ∃ n, n = zs.length := ⟨_, rfl⟩
  obtain ⟨lm, hlm⟩ : ∃ n, n = ns.length := ⟨_, rfl⟩
  rw [← hln] at HV ⊢
  rw [← hlm] at HN ⊢
  have HN0 := HN
  have HLN := Lib.hid hln
  have HLM := Lib.hid hlm
  clear hva hvn hln hlm
  by_cases h0 : ln > 30
  · have e0a : decide ((ln : Int) > 30) = true := decide_eq_true (by omega)
    have e0b : decide (ln > 30) = true := decide_eq_true (by omega)
    have e0c : decide (30 < ln) = true := decide_eq_true (by omega)
    clear HV HN HN0 HLN HLM CC CRD CFL h0
    go_enter Try.func5, Try.ntmps5
    go_wp2_with fail
    refine (AW.out w).mono ?_
    rintro e V1 ⟨rfl, hy⟩
    replace K := Lib.hid (K.out.trans (hy.mono K.out.size))
    clear hy
    go_wp2
    go_ret
    exact ⟨rfl, K.out⟩
  by_cases h1 : lm > 40
  · have e0a : decide ((ln : Int) > 30) = false := decide_eq_false (by omega)
    have e0b : decide (ln > 30) = false := decide_eq_false (by omega)
    have e0c : decide (30 < ln) = false := decide_eq_false (by omega)
    have e1a : decide ((lm : Int) > 40) = true := decide_eq_true (by omega)
    have e1b : decide (lm > 40) = true := decide_eq_true (by omega)
    have e1c : decide (40 < lm) = true := decide_eq_true (by omega)
    clear HV HN HN0 HLN HLM CC CRD CFL h0 h1
    go_enter Try.func5, Try.ntmps5
    go_wp2_with fail
    refine (AW.out w).mono ?_
    rintro e V1 ⟨rfl, hy⟩
    replace K := Lib.hid (K.out.trans (hy.mono K.out.size))
    clear hy
    go_wp2
    go_ret
    exact ⟨rfl, K.out⟩
  have e1d : decide (ln > 30) = false := decide_eq_false (by omega)
  have e1e : decide ((ln : Int) > 30) = false := decide_eq_false (by omega)
  have e1f : decide (30 < ln) = false := decide_eq_false (by omega)
  have e2d : decide (lm > 40) = false := decide_eq_false (by omega)
  have e2e : decide ((lm : Int) > 40) = false := decide_eq_false (by omega)
  have e2f : decide (40 < lm) = false := decide_eq_false (by omega)
  have hlm30 : lm ≤ 40 := by omega
  clear h0 h1
  obtain ⟨ZC, hZC⟩ : ∃ Z, Z = cf0.cs := ⟨_, rfl⟩
  have z29 : ∀ W, (zeroValue 29).run Try.prog W = .ok (.agg ZC) W := by rw [hZC]; exact zero27
  have hZS : ZC.size = 48 := by rw [hZC]; exact cf_size _ cf0_fit
  obtain ⟨c0, hc0⟩ : ∃ c, c = cfg zs := ⟨_, rfl⟩
  have hf0 : c0.Fit := by rw [hc0]; exact cfg_fit zs
  have hk0 : okC c0 = true := by rw [hc0]; exact cfg_ok zs
  rw [← hc0] at CC
  clear hZC hc0
  have RY : Hid (c0.cs.size = ZC.size) := by show _ = _; rw [cf_size c0 hf0, hZS]
  have RZ := Lib.hid (cf_ic c0 hf0)
  have RA := Lib.hid (cf_all c0)
  have CS := Lib.hid (dgC_cs c0 1)
  have hc := dgC_fit hf0 1
  have hok := dgC_ok hk0 1 (by decide) (by decide)
  have RZ2 := Lib.hid (cf_ic (dgC c0 1) hc)
  have HC2 := Lib.hid (cf_get c0 hf0).2.2.1
  have CM := Lib.hid (fun W => made_any (dgC c0 1) hc hok W)
  obtain ⟨c, hcd⟩ : ∃ c, c = dgC c0 1 := ⟨_, rfl⟩
  rw [← hcd] at CS hc hok RZ2 CM
  obtain ⟨rr, hrr⟩ : ∃ rr : Nat → Int, rr = fun j => ns.getD j 0 % 9 := ⟨_, rfl⟩
  have RR : Hid (∀ j, rr j = ns.getD j 0 % 9) := fun j => by rw [hrr]
  have RR9 : Hid (∀ j, 0 ≤ rr j ∧ rr j < 9) := fun j => by rw [hrr]; show 0 ≤ ns.getD j 0 % 9 ∧ ns.getD j 0 % 9 < 9; omega
  clear hrr
  have CIN := Lib.hid (fun tn fn B c' (hT : TI c c') (k : Fl) (hk : k.Fit) v r W h => insert_any tn fn B c c' hc hok k hk v r W h (fun R h => way_sh (way_ok c hok c' k R h)))
  have CTW := Lib.hid (fun tn fn B c' (k : Fl) (hk : k.Fit) (hv : vK k = true) v W h => twin_any tn fn B c c' hc hok k hk hv v W h)
  have CFD : Hid (∀ tn fn B c' (k : Fl), k.Fit → ∀ W, TS tn fn B c c' W → Calls Try.prog 21 #[.pointer (some ⟨tn, 0, none⟩), .agg k.cs] W fun e w' => e = .returned (.tuple #[.agg (rP (dlO c c' k)), .agg (rcS ((dlO c c' k).map (·.2))), .bool ((dlO c c' k).map (·.2)).isSome]) ∧ Below W.heap.size W w') :=
    fun tn fn B c' k hk W h => by rw [← rC_map, Option.isSome_map]; exact find_any tn fn B c c' hc hok k hk W h
  have CLK : Hid (∀ tn fn B c' (k : Fl), k.Fit → ∀ v W, TS tn fn B c c' W → Calls Try.prog 16 #[.pointer (some ⟨tn, 0, none⟩), .agg k.cs, .int .i64 v] W fun e w' => e = .returned (.tuple #[.agg (rP (fst1 (lkN c.st.toNat c.sz.toNat c') (fun s => hitsB s (dgN c k) v) (plL c k))), .agg (rcS ((fst1 (lkN c.st.toNat c.sz.toNat c') (fun s => hitsB s (dgN c k) v) (plL c k)).map (·.2))), .bool ((fst1 (lkN c.st.toNat c.sz.toNat c') (fun s => hitsB s (dgN c k) v) (plL c k)).map (·.2)).isSome]) ∧ Below W.heap.size W w') :=
    fun tn fn B c' k hk v W h => by rw [← rC_map, Option.isSome_map]; exact look_any tn fn B c c' hc hok k hk v W h
  have VST := Lib.hid (fun c' (hT : TI c c') m (hM : viM c c' m rr) => vip_step hok hT hM)
  have VEN := Lib.hid (fun c' (hT : TI c c') m (hM : viM c c' m rr) i hi hm => vip_end hok hT hM i hi hm)
  have VDG : Hid (∀ c' (_ : TI c c') k s, (dlO c c' k).map (·.2) = some s → s.d < 65536) := fun c' hT k s h => by
    cases ho : dlO c c' k with
    | none => rw [ho] at h; cases h
    | some o =>
      rw [ho] at h
      have e : o.2 = s := Option.some.inj h
      have := hT.mem_dg (find_some hok hT ho).2
      rw [← e, this]
      exact dgN_lt c _ hok
  obtain ⟨ZK, hZK⟩ : ∃ Z, Z = k0.cs := ⟨_, rfl⟩
  have z42 : Hid (∀ W, (zeroValue 42).run Try.prog W = .ok (.agg ZK) W) := by rw [hZK]; exact zero42
  have hZKS : ZK.size = 37 := by rw [hZK]; exact Fl.cs_size _ k0_fit
  clear hcd hZK
  go_enter Try.func5, Try.ntmps5
  go_wp2_with fail
  refine (CC.out _ w HV.out).mono ?_
  rintro e V1 ⟨rfl, hy⟩
  replace K := Lib.hid (K.out.trans (hy.mono K.out.size))
  replace HV := Lib.hid (HV.out.below hy)
  replace HN := Lib.hid (HN.out.below hy)
  have hk1 := K.out.size
  clear hy
  go_wp2_with (((with_reducible refine wpList_blk_store (op := ⟨none, .store 29 (.tmp 5) (.tmp 35), _, _, _, _⟩) ?sg1 29 (.tmp 5) (.tmp 35) ?so1 (V1.heap.size) c0.cs ?sx1 ?sy1 (Blk.new V1 29 ZC) RY.out RZ.out RA.out ?_); (case sg1 => rfl); (case so1 => rfl); (case sx1 => rfl); (case sy1 => rfl)))
  intro V2 hA hF hB
  have hy := ((Below.refl V1.heap.size V1).alloc (Nat.le_refl _) (.cells ZC 29)).trans (hB _ (Nat.le_refl _))
  replace K := Lib.hid (K.out.trans (hy.mono K.out.size))
  replace HV := Lib.hid (HV.out.below hy)
  replace HN := Lib.hid (HN.out.below hy)
  have C7 := Lib.hid hA
  clear hA hF hB hy
  have hC7 := C7.out.lt
  have k1 := C7.out.cell 2
  rw [HC2.out] at k1
  have k2 := C7.out.frozen 2
  go_upto_region 5 with fail
  have K3 := Lib.hid (K.out.setCell (p := ⟨V1.heap.size, 2, none⟩) (by show w.heap.size ≤ V1.heap.size; exact hk1) (.int .i64 1))
  have C3 := Lib.hid (show Blk _ _ 29 _ from C7.out.set_ 2 (.int .i64 1))
  rw [← CS.out] at C3
  clear k1 k2 C7 K HV HN z29
  generalize V2.setCell ⟨V1.heap.size, 2, none⟩ (.int .i64 1) = Vc at *
  have L2 : (loadVar 29 ⟨V1.heap.size, 0, none⟩).run Try.prog Vc = .ok (.agg c.cs) Vc := run_blk_load (P := Try.prog) 29 (V1.heap.size) _ C3.out Try.underlying29 rfl RZ2.out
  replace L2 := Lib.hid L2
  go_wp2_with (((with_reducible refine wpList_load_want (op := ⟨some 38, .load 29 (.tmp 5), _, _, _, _⟩) ?wg2 29 (.tmp 5) ?wo2 ⟨V1.heap.size, 0, none⟩ ?wx2 (.agg c.cs) L2.out ?_); (case wg2 => rfl); (case wo2 => rfl); (case wx2 => rfl)))
  clear L2
  have hk3 := K3.out.size
  refine (CM.out Vc).mono ?_
  rintro e V3 ⟨tn, fn, B, rt, rfl, ht, hfn, -, -, hy⟩
  replace K3 := Lib.hid (K3.out.trans (hy.mono K3.out.size))
  replace C3 := Lib.hid (C3.out.below hy C3.out.lt)
  have HT := Lib.hid ht
  have hfB : fn < B := ht.hF
  have hBt : B + (2 + c.st.toNat) ≤ tn := by have := ht.hT; omega
  have hqt := eqt_some ⟨tn, 0, none⟩
  clear ht CM CC RY RZ RA CS
  clear hy
  go_wp2
  go_loopw [8] (fun i wr => ∃ (j : Nat) (c' : Nat → Option Se), j ≤ lm ∧ i = .int .i64 (j : Int) ∧ Hid (TS tn fn B c c' wr) ∧ Hid (TI c c') ∧ Hid (viM c c' j rr) ∧ Hid (Below w.heap.size w wr)) (fun i _ => lm - (RowKit.intOf i).toNat)
  case atStart => exact ⟨0, _, Nat.zero_le _, rfl, HT, TI.none c, viM_none c rr, K3⟩
  case round =>
    obtain ⟨j, c', hj, rfl, HTr, HTI, HVM, Kr⟩ := hrel
    clear HT K3 C3
    by_cases hlt : j < lm
    · clear VEN CLK CFD AW VDG
      have d1 : decide ((j : Int) < (lm : Int)) = true := decide_eq_true (by omega)
      have d2 : decide (j < lm) = true := decide_eq_true hlt
      have hb2 : 0 ≤ (j : Int) ∧ (j : Int) < (lm : Int) := by omega
      have w6 : IntKind.i64.wrap ((j : Int) + 1) = ((j + 1 : Nat) : Int) := by rw [IntKind.wrap_i64]; omega
      have hnr := HN0.out
      rw [HLM.out] at hnr
      obtain ⟨bb, off, rfl, hcl⟩ := RdI.cells hnr (by rw [← HLM.out]; omega)
      have c00 := Lib.hid (hcl j (by rw [← HLM.out]; exact hlt))
      have hb0 : bb < w.heap.size := World.block_lt_of_cell? w _ c00.out
      have hrj := RR.out j
      have hr9 := RR9.out j
      generalize ns.getD j 0 = z at *
      have hkf := kflow_fit (j : Int) false false
      have hkv := kflow_vK (j : Int) false false
      obtain ⟨v1, v2, v3, v4⟩ := VST.out c' HTI.out j HVM.out (by omega) hr9.1 hkf
      have CF1 := Lib.hid (fun W => CFL.out (j : Int) W)
      have CT1 := Lib.hid (fun W h => CTW.out tn fn B c' (kflow (j : Int) false false) hkf hkv (j : Int) W h)
      rw [v1] at CT1
      change Hid (∀ W, _ → Calls _ _ _ _ (fun e w' => e = .returned (.tuple #[.agg (tkC none), .bool false]) ∧ _)) at CT1
      have CI1 := Lib.hid (fun W h => CIN.out tn fn B c' HTI.out (kflow (j : Int) false false) hkf (j : Int) (rr j) W h)
      have HT2 := Lib.hid v3
      have HV2 := Lib.hid v4
      clear v1 v3 v4 hnr hcl
      generalize insC c c' (kflow (j : Int) false false) hkf (j : Int) (rr j) = c2 at *
      rw [hrj] at CI1 v2
      generalize insM c c' (kflow (j : Int) false false) (j : Int) (z % 9) = im at *
      generalize insE c c' (kflow (j : Int) false false) (j : Int) (z % 9) = E at *
      have TY : Hid ((tkC none).size = ZK.size) := by show _ = _; rw [hZKS]; exact Fl.cs_size _ k0_fit
      have TZ : Hid ((Try.prog.info? 42).map (·.size) = some (tkC none).size) := fl_ik k0 k0_fit
      have TA := Lib.hid (tkC_all none)
      generalize tkC none = kt at *
      generalize kflow (j : Int) false false = k at *
      have KY : Hid (k.cs.size = ZK.size) := by show _ = _; rw [Fl.cs_size _ hkf, hZKS]
      have KZ := Lib.hid (fl_ik k hkf)
      have KA := Lib.hid (Fl.cs_all k)
      clear hkf hkv HTI HVM
      generalize k.cs = kc at *
      have hz42 := z42.out
      have h4l := HTr.out.lt
      go_wp2_with fail
      refine (CF1.out wr).mono ?_
      rintro e V201 ⟨rfl, hy⟩
      replace HTr := Lib.hid (HTr.out.below hy)
      replace Kr := Lib.hid (Kr.out.trans (hy.mono Kr.out.size))
      have h4m := HTr.out.lt
      clear hy
      go_wp2_with (((with_reducible refine wpList_blk_store (op := ⟨none, .store 42 (.tmp 9) (.tmp 51), _, _, _, _⟩) ?sg3 42 (.tmp 9) (.tmp 51) ?so3 (V201.heap.size) kc ?sx3 ?sy3 (Blk.new V201 42 ZK) KY.out KZ.out KA.out ?_); (case sg3 => rfl); (case so3 => rfl); (case sx3 => rfl); (case sy3 => rfl)))
      intro V202 hA hF hB
      have hy := ((Below.refl V201.heap.size V201).alloc (Nat.le_refl _) (.cells ZK 42)).trans (hB _ (Nat.le_refl _))
      replace HTr := Lib.hid (HTr.out.below hy)
      replace Kr := Lib.hid (Kr.out.trans (hy.mono Kr.out.size))
      have K9 := Lib.hid hA
      clear hA hF hB hy
      have L4 : (loadVar 42 ⟨V201.heap.size, 0, none⟩).run Try.prog V202 = .ok (.agg kc) V202 := run_blk_load (P := Try.prog) 42 (V201.heap.size) _ K9.out Try.underlying42 rfl KZ.out
      replace L4 := Lib.hid L4
      go_wp2_with (((with_reducible refine wpList_load_want (op := ⟨some 54, .load 42 (.tmp 9), _, _, _, _⟩) ?wg4 42 (.tmp 9) ?wo4 ⟨V201.heap.size, 0, none⟩ ?wx4 (.agg kc) L4.out ?_); (case wg4 => rfl); (case wo4 => rfl); (case wx4 => rfl)))
      clear L4
      have h9 := K9.out.lt
      refine (CT1.out V202 HTr.out).mono ?_
      rintro e V203 ⟨rfl, hy⟩
      replace HTr := Lib.hid (HTr.out.below hy)
      replace Kr := Lib.hid (Kr.out.trans (hy.mono Kr.out.size))
      replace K9 := Lib.hid (K9.out.below hy K9.out.lt)
      have h4n := HTr.out.lt
      clear hy
      go_wp2_with (((with_reducible refine wpList_blk_store (op := ⟨none, .store 42 (.tmp 10) (.tmp 57), _, _, _, _⟩) ?sg5 42 (.tmp 10) (.tmp 57) ?so5 (V203.heap.size) kt ?sx5 ?sy5 (Blk.new V203 42 ZK) TY.out TZ.out TA.out ?_); (case sg5 => rfl); (case so5 => rfl); (case sx5 => rfl); (case sy5 => rfl)))
      have qK9X10 : V201.heap.size < V203.heap.size := K9.out.lt
      intro V204 hA hF hB
      have hy := ((Below.refl V203.heap.size V203).alloc (Nat.le_refl _) (.cells ZK 42)).trans (hB _ (Nat.le_refl _))
      replace HTr := Lib.hid (HTr.out.below hy)
      replace Kr := Lib.hid (Kr.out.trans (hy.mono Kr.out.size))
      replace K9 := Lib.hid (K9.out.below hy K9.out.lt)
      have X10 := Lib.hid hA
      clear hA hF hB hy
      have hKs := Kr.out.size
      go_wp2_with fail
      refine wp_region_held (S := (fun w' : World => Blk w' (V201.heap.size) 42 kc ∧ Below w.heap.size w w')) (by kernel_rfl) ?_
      change wpAnyH _ _ _ _ _ _ _ _ V204.drew
      have hy : Below V204.heap.size V204 V204.drew := (Below.refl _ _).drew
      replace HTr := Lib.hid (HTr.out.below hy)
      replace Kr := Lib.hid (Kr.out.trans (hy.mono Kr.out.size))
      replace K9 := Lib.hid (K9.out.below hy K9.out.lt)
      replace X10 := Lib.hid (X10.out.below hy X10.out.lt)
      clear hy
      generalize V204.drew = Y13h0 at *
      refine tkA 0 (?_) ?_ ⟨K9.out, Kr.out⟩ ?_
      rotate_left
      · (intro w1 hS; go_simp; try with_reducible rfl)
      simp only [Act.put, tS1, tS2, tS3]
      refine tkA 1 (.agg kc) ?_ ⟨K9.out, Kr.out⟩ ?_
      · (intro w1 hS; obtain ⟨hS0, hS1⟩ := hS; exact exec_load 42 (.tmp 9) rfl _ rfl _ (run_blk_load (P := Try.prog) 42 (V201.heap.size) _ hS0 Try.underlying42 rfl KZ.out))
      simp only [Act.put, tS1, tS2, tS3]
      refine tkA 2 (?_) ?_ ⟨K9.out, Kr.out⟩ ?_
      rotate_left
      · (intro w1 hS; go_simp; try with_reducible rfl)
      simp only [Act.put, tS1, tS2, tS3]
      refine tkA 3 (?_) ?_ ⟨K9.out, Kr.out⟩ ?_
      rotate_left
      · (intro w1 hS; go_simp; try with_reducible rfl)
      simp only [Act.put, tS1, tS2, tS3]
      refine tkA 4 (?_) ?_ ⟨K9.out, Kr.out⟩ ?_
      rotate_left
      · (intro w1 hS; go_simp; try with_reducible rfl)
      simp only [Act.put, tS1, tS2, tS3]
      refine tkA 5 (?_) ?_ ⟨K9.out, Kr.out⟩ ?_
      rotate_left
      · (intro w1 hS; go_simp; try with_reducible rfl)
      simp only [Act.put, tS1, tS2, tS3]
      refine tkA 6 (?_) ?_ ⟨K9.out, Kr.out⟩ ?_
      rotate_left
      · (intro w1 hS; obtain ⟨hS0, hS1⟩ := hS; have q := (hS1.cell (p := ⟨bb, off + j, none⟩) hb0).trans c00.out; go_simp; try with_reducible rfl)
      simp only [Act.put, tS1, tS2, tS3]
      refine tkO 7 (fun KK hK => ?_)
      go_simp
      refine (CRD.out z Y13h0).mono ?_
      rintro e Y13h1 ⟨rfl, rfl⟩
      refine hK.out _ _ ⟨K9.out, Kr.out⟩ (fun _ => ?_)
      clear hK KK
      try simp only [Act.put, tS1, tS2, tS3]
      refine tkO 8 (fun KK hK => ?_)
      go_simp
      refine (CI1.out Y13h0 HTr.out).mono ?_
      rintro e Y13h1 ⟨mv, rfl, hg, ha, -⟩
      replace Kr := Lib.hid (Kr.out.trans (ha.below (by omega) Kr.out.size))
      replace K9 := Lib.hid (ha.blk K9.out (by omega))
      replace X10 := Lib.hid (ha.blk X10.out (by omega))
      replace HTr := Lib.hid hg
      clear hg
      clear ha
      refine hK.out _ _ ⟨K9.out, Kr.out⟩ (fun _ => ?_)
      clear hK KK
      try simp only [Act.put, tS1, tS2, tS3]
      refine tkA 9 (?_) ?_ ⟨K9.out, Kr.out⟩ ?_
      rotate_left
      · (intro w1 hS; go_simp; try with_reducible rfl)
      simp only [Act.put, tS1, tS2, tS3]
      refine tkA 10 (?_) ?_ ⟨K9.out, Kr.out⟩ ?_
      rotate_left
      · (intro w1 hS; go_simp; try with_reducible rfl)
      simp only [Act.put, tS1, tS2, tS3]
      refine tkA 11 (?_) ?_ ⟨K9.out, Kr.out⟩ ?_
      rotate_left
      · (intro w1 hS; go_simp; try with_reducible rfl)
      simp only [Act.put, tS1, tS2, tS3]
      refine tkA 12 (?_) ?_ ⟨K9.out, Kr.out⟩ ?_
      rotate_left
      · (intro w1 hS; go_simp; try with_reducible rfl)
      simp only [Act.put, tS1, tS2, tS3]
      refine tkA 13 (?_) ?_ ⟨K9.out, Kr.out⟩ ?_
      rotate_left
      · (intro w1 hS; go_simp; try with_reducible rfl)
      simp only [Act.put, tS1, tS2, tS3]
      refine wpAnyH_done (by kernel_rfl) ?_ _
      rcases v2 with rfl | rfl
      · go_wp2
        go_roundw
        case rel => exact ⟨j + 1, c2, hlt, by go_num, HTr, HT2, HV2, Kr⟩
        case measure => simp [RowKit.intOf]; omega
      · go_wp2
        go_roundw
        case rel => exact ⟨j + 1, c2, hlt, by go_num, HTr, HT2, HV2, Kr⟩
        case measure => simp [RowKit.intOf]; omega
    · obtain rfl : lm = j := by omega
      clear VST CTW CIN hj hlt
      have d1 : decide ((lm : Int) < (lm : Int)) = false := decide_eq_false (by omega)
      have d2 : decide (lm < lm) = false := decide_eq_false (by omega)
      go_wp2
      go_loopw [14] (fun i wr => ∃ (j : Nat), j ≤ lm ∧ i = .int .i64 (j : Int) ∧ Hid (TS tn fn B c c' wr) ∧ Hid (Below w.heap.size w wr)) (fun i _ => lm - (RowKit.intOf i).toNat)
      case atStart => exact ⟨0, Nat.zero_le _, rfl, HTr, Kr⟩
      case round =>
        obtain ⟨j, hj, rfl, HT2, Kr2⟩ := hrel
        clear HTr Kr d1 d2
        by_cases hlt : j < lm
        · clear AW
          have d1 : decide ((j : Int) < (lm : Int)) = true := decide_eq_true (by omega)
          have d2 : decide (j < lm) = true := decide_eq_true hlt
          have hb2 : 0 ≤ (j : Int) ∧ (j : Int) < (lm : Int) := by omega
          have w6 : IntKind.i64.wrap ((j : Int) + 1) = ((j + 1 : Nat) : Int) := by rw [IntKind.wrap_i64]; omega
          have w7 : IntKind.i64.wrap ((lm : Int) + (j : Int)) = (lm : Int) + (j : Int) := by rw [IntKind.wrap_i64]; omega
          have hnr := HN0.out
          rw [HLM.out] at hnr
          obtain ⟨bb, off, rfl, hcl⟩ := RdI.cells hnr (by rw [← HLM.out]; omega)
          have c00 := Lib.hid (hcl j (by rw [← HLM.out]; exact hlt))
          have hb0 : bb < w.heap.size := World.block_lt_of_cell? w _ c00.out
          have hrj := RR.out j
          have hr9 := RR9.out j
          generalize ns.getD j 0 = z at *
          have hkf := kflow_fit (j : Int) false false
          obtain ⟨o, w1, w2, w3, w4⟩ := VEN.out c' HTI.out lm HVM.out j hlt (by omega)
          have hdg : ∀ s, o = some s → s.d < 65536 := fun s hs => VDG.out c' HTI.out (kflow (j : Int) false false) s (w1.trans hs)
          have CF1 := Lib.hid (fun W => CFL.out (j : Int) W)
          have CD1 := Lib.hid (fun W h => CFD.out tn fn B c' (kflow (j : Int) false false) hkf W h)
          rw [w1] at CD1
          have CL1 := Lib.hid (fun W h => CLK.out tn fn B c' (kflow (j : Int) false false) hkf (j : Int) W h)
          rw [w2] at CL1
          have CN1 := Lib.hid (fun W h => CLK.out tn fn B c' (kflow (j : Int) false false) hkf ((lm : Int) + (j : Int)) W h)
          rw [w4] at CN1
          change Hid (∀ W, _ → Calls _ _ _ _ (fun e w' => e = .returned (.tuple #[.agg (rP none), .agg (rcS none), .bool false]) ∧ _)) at CN1
          have EQ : Hid (∀ W, (Op.equalIn 10000 46 (.agg (rcS o)) (.agg (rcS o))).run Try.prog W = .ok true W) := fun W => rcS_eq o (fun s hs => by
            obtain ⟨a, b⟩ := w3 s hs
            exact ⟨hdg s hs, by rw [a]; exact i64_wf _ (by omega) (by omega), by rw [b]; exact i64_wf _ (by omega) (by omega)⟩) W
          have E3 : Hid (o.isSome = true → (rcS o)[3]? = some (.int .i64 (z % 9))) := fun h => by
            cases o with
            | none => cases h
            | some s => obtain ⟨a, b⟩ := w3 s rfl; show some (Value.int .i64 s.r) = _; rw [b, hrj]
          clear w1 w2 w3 w4 hdg hnr hcl hrj hr9
          have PS := Lib.hid (rP_size ((dlO c c' (kflow (j : Int) false false))))
          have PI : Hid ((Try.prog.info? 51).map (·.size) = some (rP (dlO c c' (kflow (j : Int) false false))).size) := by show _ = _; rw [rP_size]; exact i51c
          have PA := Lib.hid (rP_all ((dlO c c' (kflow (j : Int) false false))))
          generalize rP (dlO c c' (kflow (j : Int) false false)) = p1 at *
          have QS := Lib.hid (rP_size ((fst1 (lkN c.st.toNat c.sz.toNat c') (fun s => hitsB s (dgN c (kflow (j : Int) false false)) (j : Int)) (plL c (kflow (j : Int) false false)))))
          have QI : Hid ((Try.prog.info? 51).map (·.size) = some (rP (fst1 (lkN c.st.toNat c.sz.toNat c') (fun s => hitsB s (dgN c (kflow (j : Int) false false)) (j : Int)) (plL c (kflow (j : Int) false false)))).size) := by show _ = _; rw [rP_size]; exact i51c
          have QA := Lib.hid (rP_all ((fst1 (lkN c.st.toNat c.sz.toNat c') (fun s => hitsB s (dgN c (kflow (j : Int) false false)) (j : Int)) (plL c (kflow (j : Int) false false)))))
          generalize rP (fst1 (lkN c.st.toNat c.sz.toNat c') (fun s => hitsB s (dgN c (kflow (j : Int) false false)) (j : Int)) (plL c (kflow (j : Int) false false))) = p2 at *
          have SS := Lib.hid (rP_size (none))
          have SI : Hid ((Try.prog.info? 51).map (·.size) = some (rP none).size) := by show _ = _; rw [rP_size]; exact i51c
          have SA := Lib.hid (rP_all (none))
          generalize rP none = p3 at *
          have DS := Lib.hid (rcS_size (o))
          have DI : Hid ((Try.prog.info? 46).map (·.size) = some (rcS o).size) := by show _ = _; rw [rcS_size]; exact i46c
          have DA := Lib.hid (rcS_all (o))
          generalize rcS o = cz at *
          have FS := Lib.hid (rcS_size (none))
          have FI : Hid ((Try.prog.info? 46).map (·.size) = some (rcS none).size) := by show _ = _; rw [rcS_size]; exact i46c
          have FA := Lib.hid (rcS_all (none))
          generalize rcS none = cn at *
          generalize o.isSome = ob at *
          generalize kflow (j : Int) false false = k at *
          have KY : Hid (k.cs.size = ZK.size) := by show _ = _; rw [Fl.cs_size _ hkf, hZKS]
          have KZ := Lib.hid (fl_ik k hkf)
          have KA := Lib.hid (Fl.cs_all k)
          clear hkf
          generalize k.cs = kc at *
          have hz42 := z42.out
          have hz46 := zero46
          have h4l := HT2.out.lt
          go_wp2_with fail
          refine (CF1.out wr).mono ?_
          rintro e V601 ⟨rfl, hy⟩
          replace HT2 := Lib.hid (HT2.out.below hy)
          replace Kr2 := Lib.hid (Kr2.out.trans (hy.mono Kr2.out.size))
          clear hy
          go_wp2_with (((with_reducible refine wpList_blk_store (op := ⟨none, .store 42 (.tmp 15) (.tmp 87), _, _, _, _⟩) ?sg6 42 (.tmp 15) (.tmp 87) ?so6 (V601.heap.size) kc ?sx6 ?sy6 (Blk.new V601 42 ZK) KY.out KZ.out KA.out ?_); (case sg6 => rfl); (case so6 => rfl); (case sx6 => rfl); (case sy6 => rfl)))
          intro V602 hA hF hB
          have hy := ((Below.refl V601.heap.size V601).alloc (Nat.le_refl _) (.cells ZK 42)).trans (hB _ (Nat.le_refl _))
          replace HT2 := Lib.hid (HT2.out.below hy)
          replace Kr2 := Lib.hid (Kr2.out.trans (hy.mono Kr2.out.size))
          have K15 := Lib.hid hA
          clear hA hF hB hy
          have L7 : (loadVar 42 ⟨V601.heap.size, 0, none⟩).run Try.prog V602 = .ok (.agg kc) V602 := run_blk_load (P := Try.prog) 42 (V601.heap.size) _ K15.out Try.underlying42 rfl KZ.out
          replace L7 := Lib.hid L7
          go_wp2_with (((with_reducible refine wpList_load_want (op := ⟨some 90, .load 42 (.tmp 15), _, _, _, _⟩) ?wg7 42 (.tmp 15) ?wo7 ⟨V601.heap.size, 0, none⟩ ?wx7 (.agg kc) L7.out ?_); (case wg7 => rfl); (case wo7 => rfl); (case wx7 => rfl)))
          clear L7
          refine (CD1.out V602 HT2.out).mono ?_
          rintro e V603 ⟨rfl, hy⟩
          replace HT2 := Lib.hid (HT2.out.below hy)
          replace Kr2 := Lib.hid (Kr2.out.trans (hy.mono Kr2.out.size))
          replace K15 := Lib.hid (K15.out.below hy K15.out.lt)
          have hK20 := Kr2.out.size
          have hT20 := HT2.out.lt
          have hK15_20 := K15.out.lt
          clear CD1
          clear hy
          have hal := (Below.refl V603.heap.size V603).alloc (Nat.le_refl _) (.cells #[.int .i64 0, .int .i64 0] 51)
          replace HT2 := Lib.hid (HT2.out.below hal)
          replace Kr2 := Lib.hid (Kr2.out.trans (hal.mono Kr2.out.size))
          replace K15 := Lib.hid (K15.out.below hal K15.out.lt)
          have X16 := Lib.hid (Blk.new V603 51 #[.int .i64 0, .int .i64 0])
          clear hal
          have hal := (Below.refl (V603.alloc (.cells #[.int .i64 0, .int .i64 0] 51)).heap.size (V603.alloc (.cells #[.int .i64 0, .int .i64 0] 51))).alloc (Nat.le_refl _) (.cells zCe 46)
          replace HT2 := Lib.hid (HT2.out.below hal)
          replace Kr2 := Lib.hid (Kr2.out.trans (hal.mono Kr2.out.size))
          replace K15 := Lib.hid (K15.out.below hal K15.out.lt)
          replace X16 := Lib.hid (X16.out.below hal X16.out.lt)
          have X17q := Blk.new (V603.alloc (.cells #[.int .i64 0, .int .i64 0] 51)) 46 zCe
          simp only [World.size_alloc] at X17q
          have X17 := Lib.hid X17q
          clear X17q
          clear hal
          go_wp2_with (((with_reducible refine wpList_blk_store (op := ⟨none, .store 51 (.tmp 16) (.tmp 92), _, _, _, _⟩) ?sg8 51 (.tmp 16) (.tmp 92) ?so8 (V603.heap.size) p1 ?sx8 ?sy8 X16.out PS.out PI.out PA.out ?_); (case sg8 => rfl); (case so8 => rfl); (case sx8 => rfl); (case sy8 => rfl)))
          intro V604 hA hF hB
          replace HT2 := Lib.hid (HT2.out.belowB (hB (tn + 1) (by omega)) (by omega))
          replace Kr2 := Lib.hid (Kr2.out.trans (hB _ (by omega)))
          replace K15 := Lib.hid (show Blk _ _ _ _ from (hF _ (by omega)).trans K15.out)
          replace X17 := Lib.hid (show Blk _ _ _ _ from (hF _ (by omega)).trans X17.out)
          replace X16 := Lib.hid hA
          clear hA hF hB
          go_wp2_with (((with_reducible refine wpList_blk_store (op := ⟨none, .store 46 (.tmp 17) (.tmp 93), _, _, _, _⟩) ?sg9 46 (.tmp 17) (.tmp 93) ?so9 (V603.heap.size + 1) cz ?sx9 ?sy9 X17.out DS.out DI.out DA.out ?_); (case sg9 => rfl); (case so9 => rfl); (case sx9 => rfl); (case sy9 => rfl)))
          intro V605 hA hF hB
          replace HT2 := Lib.hid (HT2.out.belowB (hB (tn + 1) (by omega)) (by omega))
          replace Kr2 := Lib.hid (Kr2.out.trans (hB _ (by omega)))
          replace K15 := Lib.hid (show Blk _ _ _ _ from (hF _ (by omega)).trans K15.out)
          replace X16 := Lib.hid (show Blk _ _ _ _ from (hF _ (by omega)).trans X16.out)
          replace X17 := Lib.hid hA
          clear hA hF hB
          have L10 : (loadVar 42 ⟨V601.heap.size, 0, none⟩).run Try.prog V605 = .ok (.agg kc) V605 := run_blk_load (P := Try.prog) 42 (V601.heap.size) _ K15.out Try.underlying42 rfl KZ.out
          replace L10 := Lib.hid L10
          go_wp2_with (((with_reducible refine wpList_load_want (op := ⟨some 97, .load 42 (.tmp 15), _, _, _, _⟩) ?wg10 42 (.tmp 15) ?wo10 ⟨V601.heap.size, 0, none⟩ ?wx10 (.agg kc) L10.out ?_); (case wg10 => rfl); (case wo10 => rfl); (case wx10 => rfl)))
          clear L10
          refine (CL1.out V605 HT2.out).mono ?_
          rintro e V606 ⟨rfl, hy⟩
          replace HT2 := Lib.hid (HT2.out.below hy)
          replace Kr2 := Lib.hid (Kr2.out.trans (hy.mono Kr2.out.size))
          replace K15 := Lib.hid (K15.out.below hy K15.out.lt)
          replace X16 := Lib.hid (X16.out.below hy X16.out.lt)
          replace X17 := Lib.hid (X17.out.below hy X17.out.lt)
          have hK21 := Kr2.out.size
          have hT21 := HT2.out.lt
          have hK15_21 := K15.out.lt
          have hX16_21 := X16.out.lt
          have hX17_21 := X17.out.lt
          clear CL1
          clear hy
          have hal := (Below.refl V606.heap.size V606).alloc (Nat.le_refl _) (.cells #[.int .i64 0, .int .i64 0] 51)
          replace HT2 := Lib.hid (HT2.out.below hal)
          replace Kr2 := Lib.hid (Kr2.out.trans (hal.mono Kr2.out.size))
          replace K15 := Lib.hid (K15.out.below hal K15.out.lt)
          replace X16 := Lib.hid (X16.out.below hal X16.out.lt)
          replace X17 := Lib.hid (X17.out.below hal X17.out.lt)
          have X19 := Lib.hid (Blk.new V606 51 #[.int .i64 0, .int .i64 0])
          clear hal
          have hal := (Below.refl (V606.alloc (.cells #[.int .i64 0, .int .i64 0] 51)).heap.size (V606.alloc (.cells #[.int .i64 0, .int .i64 0] 51))).alloc (Nat.le_refl _) (.cells zCe 46)
          replace HT2 := Lib.hid (HT2.out.below hal)
          replace Kr2 := Lib.hid (Kr2.out.trans (hal.mono Kr2.out.size))
          replace K15 := Lib.hid (K15.out.below hal K15.out.lt)
          replace X16 := Lib.hid (X16.out.below hal X16.out.lt)
          replace X17 := Lib.hid (X17.out.below hal X17.out.lt)
          replace X19 := Lib.hid (X19.out.below hal X19.out.lt)
          have X20q := Blk.new (V606.alloc (.cells #[.int .i64 0, .int .i64 0] 51)) 46 zCe
          simp only [World.size_alloc] at X20q
          have X20 := Lib.hid X20q
          clear X20q
          clear hal
          go_wp2_with (((with_reducible refine wpList_blk_store (op := ⟨none, .store 51 (.tmp 19) (.tmp 100), _, _, _, _⟩) ?sg11 51 (.tmp 19) (.tmp 100) ?so11 (V606.heap.size) p2 ?sx11 ?sy11 X19.out QS.out QI.out QA.out ?_); (case sg11 => rfl); (case so11 => rfl); (case sx11 => rfl); (case sy11 => rfl)))
          intro V607 hA hF hB
          replace HT2 := Lib.hid (HT2.out.belowB (hB (tn + 1) (by omega)) (by omega))
          replace Kr2 := Lib.hid (Kr2.out.trans (hB _ (by omega)))
          replace K15 := Lib.hid (show Blk _ _ _ _ from (hF _ (by omega)).trans K15.out)
          replace X16 := Lib.hid (show Blk _ _ _ _ from (hF _ (by omega)).trans X16.out)
          replace X17 := Lib.hid (show Blk _ _ _ _ from (hF _ (by omega)).trans X17.out)
          replace X20 := Lib.hid (show Blk _ _ _ _ from (hF _ (by omega)).trans X20.out)
          replace X19 := Lib.hid hA
          clear hA hF hB
          go_wp2_with (((with_reducible refine wpList_blk_store (op := ⟨none, .store 46 (.tmp 20) (.tmp 101), _, _, _, _⟩) ?sg12 46 (.tmp 20) (.tmp 101) ?so12 (V606.heap.size + 1) cz ?sx12 ?sy12 X20.out DS.out DI.out DA.out ?_); (case sg12 => rfl); (case so12 => rfl); (case sx12 => rfl); (case sy12 => rfl)))
          intro V608 hA hF hB
          replace HT2 := Lib.hid (HT2.out.belowB (hB (tn + 1) (by omega)) (by omega))
          replace Kr2 := Lib.hid (Kr2.out.trans (hB _ (by omega)))
          replace K15 := Lib.hid (show Blk _ _ _ _ from (hF _ (by omega)).trans K15.out)
          replace X16 := Lib.hid (show Blk _ _ _ _ from (hF _ (by omega)).trans X16.out)
          replace X17 := Lib.hid (show Blk _ _ _ _ from (hF _ (by omega)).trans X17.out)
          replace X19 := Lib.hid (show Blk _ _ _ _ from (hF _ (by omega)).trans X19.out)
          replace X20 := Lib.hid hA
          clear hA hF hB
          have L13 : (loadVar 42 ⟨V601.heap.size, 0, none⟩).run Try.prog V608 = .ok (.agg kc) V608 := run_blk_load (P := Try.prog) 42 (V601.heap.size) _ K15.out Try.underlying42 rfl KZ.out
          replace L13 := Lib.hid L13
          go_wp2_with (((with_reducible refine wpList_load_want (op := ⟨some 105, .load 42 (.tmp 15), _, _, _, _⟩) ?wg13 42 (.tmp 15) ?wo13 ⟨V601.heap.size, 0, none⟩ ?wx13 (.agg kc) L13.out ?_); (case wg13 => rfl); (case wo13 => rfl); (case wx13 => rfl)))
          clear L13
          refine (CN1.out V608 HT2.out).mono ?_
          rintro e V609 ⟨rfl, hy⟩
          replace HT2 := Lib.hid (HT2.out.below hy)
          replace Kr2 := Lib.hid (Kr2.out.trans (hy.mono Kr2.out.size))
          replace K15 := Lib.hid (K15.out.below hy K15.out.lt)
          replace X16 := Lib.hid (X16.out.below hy X16.out.lt)
          replace X17 := Lib.hid (X17.out.below hy X17.out.lt)
          replace X19 := Lib.hid (X19.out.below hy X19.out.lt)
          replace X20 := Lib.hid (X20.out.below hy X20.out.lt)
          have hK22 := Kr2.out.size
          have hT22 := HT2.out.lt
          have hK15_22 := K15.out.lt
          have hX16_22 := X16.out.lt
          have hX17_22 := X17.out.lt
          have hX19_22 := X19.out.lt
          have hX20_22 := X20.out.lt
          clear CN1
          clear hy
          have hal := (Below.refl V609.heap.size V609).alloc (Nat.le_refl _) (.cells #[.int .i64 0, .int .i64 0] 51)
          replace HT2 := Lib.hid (HT2.out.below hal)
          replace Kr2 := Lib.hid (Kr2.out.trans (hal.mono Kr2.out.size))
          replace K15 := Lib.hid (K15.out.below hal K15.out.lt)
          replace X16 := Lib.hid (X16.out.below hal X16.out.lt)
          replace X17 := Lib.hid (X17.out.below hal X17.out.lt)
          replace X19 := Lib.hid (X19.out.below hal X19.out.lt)
          replace X20 := Lib.hid (X20.out.below hal X20.out.lt)
          have X22 := Lib.hid (Blk.new V609 51 #[.int .i64 0, .int .i64 0])
          clear hal
          have hal := (Below.refl (V609.alloc (.cells #[.int .i64 0, .int .i64 0] 51)).heap.size (V609.alloc (.cells #[.int .i64 0, .int .i64 0] 51))).alloc (Nat.le_refl _) (.cells zCe 46)
          replace HT2 := Lib.hid (HT2.out.below hal)
          replace Kr2 := Lib.hid (Kr2.out.trans (hal.mono Kr2.out.size))
          replace K15 := Lib.hid (K15.out.below hal K15.out.lt)
          replace X16 := Lib.hid (X16.out.below hal X16.out.lt)
          replace X17 := Lib.hid (X17.out.below hal X17.out.lt)
          replace X19 := Lib.hid (X19.out.below hal X19.out.lt)
          replace X20 := Lib.hid (X20.out.below hal X20.out.lt)
          replace X22 := Lib.hid (X22.out.below hal X22.out.lt)
          have X23q := Blk.new (V609.alloc (.cells #[.int .i64 0, .int .i64 0] 51)) 46 zCe
          simp only [World.size_alloc] at X23q
          have X23 := Lib.hid X23q
          clear X23q
          clear hal
          go_wp2_with (((with_reducible refine wpList_blk_store (op := ⟨none, .store 51 (.tmp 22) (.tmp 111), _, _, _, _⟩) ?sg14 51 (.tmp 22) (.tmp 111) ?so14 (V609.heap.size) p3 ?sx14 ?sy14 X22.out SS.out SI.out SA.out ?_); (case sg14 => rfl); (case so14 => rfl); (case sx14 => rfl); (case sy14 => rfl)))
          intro V610 hA hF hB
          replace HT2 := Lib.hid (HT2.out.belowB (hB (tn + 1) (by omega)) (by omega))
          replace Kr2 := Lib.hid (Kr2.out.trans (hB _ (by omega)))
          replace K15 := Lib.hid (show Blk _ _ _ _ from (hF _ (by omega)).trans K15.out)
          replace X16 := Lib.hid (show Blk _ _ _ _ from (hF _ (by omega)).trans X16.out)
          replace X17 := Lib.hid (show Blk _ _ _ _ from (hF _ (by omega)).trans X17.out)
          replace X19 := Lib.hid (show Blk _ _ _ _ from (hF _ (by omega)).trans X19.out)
          replace X20 := Lib.hid (show Blk _ _ _ _ from (hF _ (by omega)).trans X20.out)
          replace X23 := Lib.hid (show Blk _ _ _ _ from (hF _ (by omega)).trans X23.out)
          replace X22 := Lib.hid hA
          clear hA hF hB
          go_wp2_with (((with_reducible refine wpList_blk_store (op := ⟨none, .store 46 (.tmp 23) (.tmp 112), _, _, _, _⟩) ?sg15 46 (.tmp 23) (.tmp 112) ?so15 (V609.heap.size + 1) cn ?sx15 ?sy15 X23.out FS.out FI.out FA.out ?_); (case sg15 => rfl); (case so15 => rfl); (case sx15 => rfl); (case sy15 => rfl)))
          intro V611 hA hF hB
          replace HT2 := Lib.hid (HT2.out.belowB (hB (tn + 1) (by omega)) (by omega))
          replace Kr2 := Lib.hid (Kr2.out.trans (hB _ (by omega)))
          replace K15 := Lib.hid (show Blk _ _ _ _ from (hF _ (by omega)).trans K15.out)
          replace X16 := Lib.hid (show Blk _ _ _ _ from (hF _ (by omega)).trans X16.out)
          replace X17 := Lib.hid (show Blk _ _ _ _ from (hF _ (by omega)).trans X17.out)
          replace X19 := Lib.hid (show Blk _ _ _ _ from (hF _ (by omega)).trans X19.out)
          replace X20 := Lib.hid (show Blk _ _ _ _ from (hF _ (by omega)).trans X20.out)
          replace X22 := Lib.hid (show Blk _ _ _ _ from (hF _ (by omega)).trans X22.out)
          replace X23 := Lib.hid hA
          clear hA hF hB
          go_upto_region 23 with fail
          cases ob with
          | false =>
            clear E3
            refine wp_region_held (S := (fun w' : World => w' = V611.drew)) (by kernel_rfl) ?_
            change wpAnyH _ _ _ _ _ _ _ _ V611.drew
            have hy : Below V611.heap.size V611 V611.drew := (Below.refl _ _).drew
            replace HT2 := Lib.hid (HT2.out.below hy)
            replace Kr2 := Lib.hid (Kr2.out.trans (hy.mono Kr2.out.size))
            replace K15 := Lib.hid (K15.out.below hy K15.out.lt)
            replace X16 := Lib.hid (X16.out.below hy X16.out.lt)
            replace X17 := Lib.hid (X17.out.below hy X17.out.lt)
            replace X19 := Lib.hid (X19.out.below hy X19.out.lt)
            replace X20 := Lib.hid (X20.out.below hy X20.out.lt)
            replace X22 := Lib.hid (X22.out.below hy X22.out.lt)
            replace X23 := Lib.hid (X23.out.below hy X23.out.lt)
            clear hy
            generalize V611.drew = Y23q at *
            refine tkA 0 (?_) ?_ rfl ?_
            rotate_left
            · (intro w1 hS; rw [hS]; go_simp; try with_reducible rfl)
            simp only [Act.put, tS1, tS2, tS3]
            refine tkA 1 (?_) ?_ rfl ?_
            rotate_left
            · (intro w1 hS; rw [hS]; go_simp; try with_reducible rfl)
            simp only [Act.put, tS1, tS2, tS3]
            refine tkA 2 (?_) ?_ rfl ?_
            rotate_left
            · (intro w1 hS; rw [hS]; go_simp; try with_reducible rfl)
            simp only [Act.put, tS1, tS2, tS3]
            refine tkA 3 (?_) ?_ rfl ?_
            rotate_left
            · (intro w1 hS; rw [hS]; go_simp; try with_reducible rfl)
            simp only [Act.put, tS1, tS2, tS3]
            refine tkA 4 (.agg cz) ?_ rfl ?_
            · (intro w1 hS; rw [hS]; exact exec_load 46 (.tmp 17) rfl _ rfl _ (run_blk_load (P := Try.prog) 46 (V603.heap.size + 1) _ X17.out Try.underlying46 rfl DI.out))
            simp only [Act.put, tS1, tS2, tS3]
            refine tkA 5 (.agg cz) ?_ rfl ?_
            · (intro w1 hS; rw [hS]; exact exec_load 46 (.tmp 20) rfl _ rfl _ (run_blk_load (P := Try.prog) 46 (V606.heap.size + 1) _ X20.out Try.underlying46 rfl DI.out))
            simp only [Act.put, tS1, tS2, tS3]
            refine tkA 6 (.bool false) ?_ rfl ?_
            · (intro w1 hS; rw [hS]; exact exec_neq46 (.tmp 118) (.tmp 119) rfl cz cz rfl rfl true (EQ.out _))
            simp only [Act.put, tS1, tS2, tS3]
            refine tkA 7 (?_) ?_ rfl ?_
            rotate_left
            · (intro w1 hS; rw [hS]; go_simp; try with_reducible rfl)
            simp only [Act.put, tS1, tS2, tS3]
            refine tkA 8 (?_) ?_ rfl ?_
            rotate_left
            · (intro w1 hS; rw [hS]; go_simp; try with_reducible rfl)
            simp only [Act.put, tS1, tS2, tS3]
            refine tkA 9 (?_) ?_ rfl ?_
            rotate_left
            · (intro w1 hS; rw [hS]; go_simp; try with_reducible rfl)
            simp only [Act.put, tS1, tS2, tS3]
            refine tkA 10 (?_) ?_ rfl ?_
            rotate_left
            · (intro w1 hS; rw [hS]; go_simp; try with_reducible rfl)
            simp only [Act.put, tS1, tS2, tS3]
            refine tkA 11 (?_) ?_ rfl ?_
            rotate_left
            · (intro w1 hS; rw [hS]; go_simp; try with_reducible rfl)
            simp only [Act.put, tS1, tS2, tS3]
            refine tkA 12 (?_) ?_ rfl ?_
            rotate_left
            · (intro w1 hS; rw [hS]; go_simp; try with_reducible rfl)
            simp only [Act.put, tS1, tS2, tS3]
            refine tkA 13 (?_) ?_ rfl ?_
            rotate_left
            · (intro w1 hS; rw [hS]; go_simp; try with_reducible rfl)
            simp only [Act.put, tS1, tS2, tS3]
            refine tkN 14 rfl ?_
            simp only [Act.put, tS1, tS2, tS3]
            refine tkN 15 rfl ?_
            simp only [Act.put, tS1, tS2, tS3]
            refine tkN 16 rfl ?_
            simp only [Act.put, tS1, tS2, tS3]
            refine tkN 17 rfl ?_
            simp only [Act.put, tS1, tS2, tS3]
            refine tkN 18 rfl ?_
            simp only [Act.put, tS1, tS2, tS3]
            refine tkN 19 rfl ?_
            simp only [Act.put, tS1, tS2, tS3]
            refine tkN 20 rfl ?_
            simp only [Act.put, tS1, tS2, tS3]
            refine tkN 21 rfl ?_
            simp only [Act.put, tS1, tS2, tS3]
            refine tkA 22 (?_) ?_ rfl ?_
            rotate_left
            · (intro w1 hS; rw [hS]; go_simp; try with_reducible rfl)
            simp only [Act.put, tS1, tS2, tS3]
            refine tkA 23 (?_) ?_ rfl ?_
            rotate_left
            · (intro w1 hS; rw [hS]; go_simp; try with_reducible rfl)
            simp only [Act.put, tS1, tS2, tS3]
            refine wpAnyH_done (by kernel_rfl) ?_ _
            go_wp2
            go_roundw
            case rel => exact ⟨j + 1, hlt, by go_num, HT2, Kr2⟩
            case measure => simp [RowKit.intOf]; omega
          | true =>
            have E3b := Lib.hid (E3.out rfl)
            clear E3
            refine wp_region_held (S := (fun w' : World => w' = V611.drew)) (by kernel_rfl) ?_
            change wpAnyH _ _ _ _ _ _ _ _ V611.drew
            have hy : Below V611.heap.size V611 V611.drew := (Below.refl _ _).drew
            replace HT2 := Lib.hid (HT2.out.below hy)
            replace Kr2 := Lib.hid (Kr2.out.trans (hy.mono Kr2.out.size))
            replace K15 := Lib.hid (K15.out.below hy K15.out.lt)
            replace X16 := Lib.hid (X16.out.below hy X16.out.lt)
            replace X17 := Lib.hid (X17.out.below hy X17.out.lt)
            replace X19 := Lib.hid (X19.out.below hy X19.out.lt)
            replace X20 := Lib.hid (X20.out.below hy X20.out.lt)
            replace X22 := Lib.hid (X22.out.below hy X22.out.lt)
            replace X23 := Lib.hid (X23.out.below hy X23.out.lt)
            clear hy
            generalize V611.drew = Y23q at *
            refine tkA 0 (?_) ?_ rfl ?_
            rotate_left
            · (intro w1 hS; rw [hS]; go_simp; try with_reducible rfl)
            simp only [Act.put, tS1, tS2, tS3]
            refine tkA 1 (?_) ?_ rfl ?_
            rotate_left
            · (intro w1 hS; rw [hS]; go_simp; try with_reducible rfl)
            simp only [Act.put, tS1, tS2, tS3]
            refine tkA 2 (?_) ?_ rfl ?_
            rotate_left
            · (intro w1 hS; rw [hS]; go_simp; try with_reducible rfl)
            simp only [Act.put, tS1, tS2, tS3]
            refine tkA 3 (?_) ?_ rfl ?_
            rotate_left
            · (intro w1 hS; rw [hS]; go_simp; try with_reducible rfl)
            simp only [Act.put, tS1, tS2, tS3]
            refine tkA 4 (.agg cz) ?_ rfl ?_
            · (intro w1 hS; rw [hS]; exact exec_load 46 (.tmp 17) rfl _ rfl _ (run_blk_load (P := Try.prog) 46 (V603.heap.size + 1) _ X17.out Try.underlying46 rfl DI.out))
            simp only [Act.put, tS1, tS2, tS3]
            refine tkA 5 (.agg cz) ?_ rfl ?_
            · (intro w1 hS; rw [hS]; exact exec_load 46 (.tmp 20) rfl _ rfl _ (run_blk_load (P := Try.prog) 46 (V606.heap.size + 1) _ X20.out Try.underlying46 rfl DI.out))
            simp only [Act.put, tS1, tS2, tS3]
            refine tkA 6 (.bool false) ?_ rfl ?_
            · (intro w1 hS; rw [hS]; exact exec_neq46 (.tmp 118) (.tmp 119) rfl cz cz rfl rfl true (EQ.out _))
            simp only [Act.put, tS1, tS2, tS3]
            refine tkA 7 (?_) ?_ rfl ?_
            rotate_left
            · (intro w1 hS; rw [hS]; go_simp; try with_reducible rfl)
            simp only [Act.put, tS1, tS2, tS3]
            refine tkA 8 (?_) ?_ rfl ?_
            rotate_left
            · (intro w1 hS; rw [hS]; go_simp; try with_reducible rfl)
            simp only [Act.put, tS1, tS2, tS3]
            refine tkA 9 (?_) ?_ rfl ?_
            rotate_left
            · (intro w1 hS; rw [hS]; go_simp; try with_reducible rfl)
            simp only [Act.put, tS1, tS2, tS3]
            refine tkA 10 (?_) ?_ rfl ?_
            rotate_left
            · (intro w1 hS; rw [hS]; go_simp; try with_reducible rfl)
            simp only [Act.put, tS1, tS2, tS3]
            refine tkA 11 (?_) ?_ rfl ?_
            rotate_left
            · (intro w1 hS; rw [hS]; go_simp; try with_reducible rfl)
            simp only [Act.put, tS1, tS2, tS3]
            refine tkA 12 (?_) ?_ rfl ?_
            rotate_left
            · (intro w1 hS; rw [hS]; go_simp; try with_reducible rfl)
            simp only [Act.put, tS1, tS2, tS3]
            refine tkA 13 (?_) ?_ rfl ?_
            rotate_left
            · (intro w1 hS; rw [hS]; go_simp; try with_reducible rfl)
            simp only [Act.put, tS1, tS2, tS3]
            refine tkA 14 (?_) ?_ rfl ?_
            rotate_left
            · (intro w1 hS; rw [hS]; go_simp; try with_reducible rfl)
            simp only [Act.put, tS1, tS2, tS3]
            refine tkA 15 (?_) ?_ rfl ?_
            rotate_left
            · (intro w1 hS; rw [hS]; have q := (X17.out.cell 3).trans E3b.out; go_simp; try with_reducible rfl)
            simp only [Act.put, tS1, tS2, tS3]
            refine tkA 16 (?_) ?_ rfl ?_
            rotate_left
            · (intro w1 hS; rw [hS]; go_simp; try with_reducible rfl)
            simp only [Act.put, tS1, tS2, tS3]
            refine tkA 17 (?_) ?_ rfl ?_
            rotate_left
            · (intro w1 hS; rw [hS]; go_simp; try with_reducible rfl)
            simp only [Act.put, tS1, tS2, tS3]
            refine tkA 18 (?_) ?_ rfl ?_
            rotate_left
            · (intro w1 hS; rw [hS]; go_simp; try with_reducible rfl)
            simp only [Act.put, tS1, tS2, tS3]
            refine tkA 19 (?_) ?_ rfl ?_
            rotate_left
            · (intro w1 hS; rw [hS]; have q := (Kr2.out.cell (p := ⟨bb, off + j, none⟩) hb0).trans c00.out; go_simp; try with_reducible rfl)
            simp only [Act.put, tS1, tS2, tS3]
            refine tkO 20 (fun KK hK => ?_)
            go_simp
            refine (CRD.out z Y23q).mono ?_
            rintro e Yx ⟨rfl, rfl⟩
            refine hK.out _ _ rfl (fun _ => ?_)
            clear hK KK
            try simp only [Act.put, tS1, tS2, tS3]
            refine tkA 21 (?_) ?_ rfl ?_
            rotate_left
            · (intro w1 hS; rw [hS]; go_simp; try with_reducible rfl)
            simp only [Act.put, tS1, tS2, tS3]
            refine tkA 22 (?_) ?_ rfl ?_
            rotate_left
            · (intro w1 hS; rw [hS]; go_simp; try with_reducible rfl)
            simp only [Act.put, tS1, tS2, tS3]
            refine tkA 23 (?_) ?_ rfl ?_
            rotate_left
            · (intro w1 hS; rw [hS]; go_simp; try with_reducible rfl)
            simp only [Act.put, tS1, tS2, tS3]
            refine wpAnyH_done (by kernel_rfl) ?_ _
            go_wp2
            go_roundw
            case rel => exact ⟨j + 1, hlt, by go_num, HT2, Kr2⟩
            case measure => simp [RowKit.intOf]; omega
        · have d1 : decide ((j : Int) < (lm : Int)) = false := decide_eq_false (by omega)
          have d2 : decide (j < lm) = false := decide_eq_false hlt
          clear VEN CLK CFD VDG
          go_wp2_with fail
          refine (AW.out wr).mono ?_
          rintro e V801 ⟨rfl, hy⟩
          replace Kr2 := Lib.hid (Kr2.out.trans (hy.mono Kr2.out.size))
          clear hy
          go_wp2
          go_ret
          exact ⟨rfl, Kr2.out⟩
end Go.Proofs.Ythldpnifodbheaa
