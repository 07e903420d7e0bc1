/- Texts that the walks of this seat lean on, put together. -/
import Derived.Deep.CutBlock
import Derived.Deep.DeepCutAuto
import Derived.LoopTactic
import Derived.Handy
import Derived.Test.YthldpnifodbheaaTk
import Derived.Test.YthldpnifodbheaaTl
import Derived.Test.YthldpnifodbheaaM27
import Derived.Test.YthldpnifodbheaaM30
import Derived.Test.YthldpnifodbheaaM32
import Derived.Test.YthldpnifodbheaaM35
import Derived.Test.YthldpnifodbheaaM39
namespace Go.Proofs.Ythldpnifodbheaa
open Go.RowKit Go.Lib
theorem hits_same (cf : Cf) (k : Fl) (hk : k.Fit) (v r : Int) : hitsB (nwS cf k hk v r) (dgN cf k) v = true := by
  unfold hitsB nwS
  rw [decide_eq_true rfl, decide_eq_true rfl]
  rfl
theorem hits_vip (cf : Cf) (k : Fl) (hk : k.Fit) (v r u : Int) (h : v ≠ u) : hitsB (nwS cf k hk v r) (dgN cf k) u = false := by
  unfold hitsB nwS
  rw [decide_eq_false h, Bool.and_false]
theorem dgN_lt (cf : Cf) (k : Fl) (hok : okC cf = true) : dgN cf k < 65536 :=
  Nat.lt_of_lt_of_le (dgN_pow cf k) (show 2 ^ cf.dg.toNat ≤ 2 ^ 16 from Nat.pow_le_pow_right (by decide) (by have := okC_dg hok; omega))
set_option maxRecDepth 100000 in
set_option maxHeartbeats 4000000 in
theorem awake_any (w : World) : Calls Try.prog 7 #[] w fun e w' => e = .returned (.bool true) ∧ Below w.heap.size w w' := by
  have K := lh (Below.refl w.heap.size w)
  obtain ⟨ZK, hZK⟩ : ∃ Z, Z = k0.cs := ⟨_, rfl⟩
  have z42 : Hid (∀ W, (zeroValue 42).run Try.prog W = .ok (.agg ZK) W) := by rw [hZK]; exact zero42
  have hZKS : ZK.size = 37 := by rw [hZK]; exact Fl.cs_size _ k0_fit
  obtain ⟨ZC, hZC⟩ : ∃ Z, Z = cf0.cs := ⟨_, rfl⟩
  have z29 : Hid (∀ W, (zeroValue 29).run Try.prog W = .ok (.agg ZC) W) := by rw [hZC]; exact zero27
  have hZS : ZC.size = 48 := by rw [hZC]; exact cf_size _ cf0_fit
  have CR := lh roomy_any
  have CK := lh (fun W => flow_any 5 false false W)
  change Hid (∀ W, Calls Try.prog 12 #[.int .i64 5, .bool false, .bool false] W fun e w' => e = .returned (.agg kA.cs) ∧ Below W.heap.size W w') at CK
  obtain ⟨c, hcr⟩ : ∃ c, c = rmy := ⟨_, rfl⟩
  have hc : c.Fit := by rw [hcr]; exact rmy_fit
  have hok : okC c = true := by rw [hcr]; exact rmy_ok
  rw [← hcr] at CR
  obtain ⟨k, hka⟩ : ∃ k, k = kA := ⟨_, rfl⟩
  have hk : k.Fit := by rw [hka]; exact kA_fit
  have hv : vK k = true := by rw [hka]; exact kA_v
  rw [← hka] at CK
  clear hcr hka hZK hZC
  obtain ⟨L, hpl, -⟩ := plL_cons c hok k hv
  have hp0 := plL_sm c hok k 0
  rw [hpl] at hp0
  change smP (0, plN c k 0) at hp0
  have CM := lh (fun W => made_any c hc hok W)
  obtain ⟨i1, i2, i3⟩ := e_ins c hok k hk hv 2 3 (by decide) (by decide)
  obtain ⟨s0, hs0⟩ : ∃ s, s = nwS c k hk 2 3 := ⟨_, rfl⟩
  have hs0k : s0.k = k := by rw [hs0]; rfl
  have hs0c : s0.ce = ceC true (dgN c k) 2 3 := by rw [hs0]; rfl
  rw [← hs0] at i2
  have CI1 := lh (fun tn fn B W h => insert_any tn fn B c eC hc hok k hk 2 3 W h (fun R h => way_sh (way_ok c hok eC k R h)))
  rw [i1, i2, i3] at CI1
  obtain ⟨j1, j2, j3⟩ := ins_no c (oneC c (0, plN c k 0) s0) k hk 2 3 (by rw [one_E c hok k hv s0 hs0k 2 3 (by decide) (by decide)]; decide)
  rw [one_E c hok k hv s0 hs0k 2 3 (by decide) (by decide)] at j1
  have CI2 := lh (fun tn fn B W h => insert_any tn fn B c (oneC c (0, plN c k 0) s0) hc hok k hk 2 3 W h (fun R h => way_sh (way_ok c hok _ k R h)))
  rw [j1, j2, j3] at CI2
  obtain ⟨l1, l2, l3⟩ := ins_no c (oneC c (0, plN c k 0) s0) k hk (-1) 3 (by rw [rfE_neg c _ k (-1) 3 (by decide)]; decide)
  rw [rfE_neg c _ k (-1) 3 (by decide)] at l1
  have CI3 := lh (fun tn fn B W h => insert_any tn fn B c (oneC c (0, plN c k 0) s0) hc hok k hk (-1) 3 W h (fun R h => way_sh (way_ok c hok _ k R h)))
  rw [l1, l2, l3] at CI3
  have CL2 := lh (fun tn fn B W h => look_any tn fn B c (oneC c (0, plN c k 0) s0) hc hok k hk 2 W h)
  rw [one_fst c hok k hv s0, if_pos (by rw [hs0]; exact hits_same c k hk 2 3)] at CL2
  have CL1 := lh (fun tn fn B W h => look_any tn fn B c (oneC c (0, plN c k 0) s0) hc hok k hk 1 W h)
  rw [one_fst c hok k hv s0, if_neg (by rw [hs0, hits_vip c k hk 2 3 1 (by decide)]; decide)] at CL1
  have CO := lh (fun tn fn B W h => owner_any tn fn B c (oneC c (0, plN c k 0) s0) (0, plN c k 0) W h)
  have hin := plL_inB c hok k (0, plN c k 0) (by rw [hpl]; exact List.mem_cons_self ..)
  rw [one_lk c (0, plN c k 0) s0 hin _ hin, if_pos rfl] at CO
  have CF := lh (fun tn fn B W h => find_any tn fn B c (oneC c (0, plN c k 0) s0) hc hok k hk W h)
  rw [one_fst c hok k hv s0, if_pos (decide_eq_true hs0k)] at CF
  have CN := lh (fun tn fn B W h => tlen_any tn fn B c (oneC c (0, plN c k 0) s0) W h)
  rw [one_cnt c hok k hv s0] at CN
  have CD := lh (fun tn fn B W h => delete_any tn fn B c (oneC c (0, plN c k 0) s0) hc hok k hk W h)
  obtain ⟨m1, m2⟩ := one_dl c hok k hv s0 hs0k
  rw [m1, m2] at CD
  have CN0 := lh (fun tn fn B W h => tlen_any tn fn B c eC W h)
  rw [show (itF eC 0 (c.st.toNat * c.sz.toNat)).length = 0 by unfold eC; rw [itF_none]; rfl] at CN0
  have CX := lh (fun W => cnew_nil c W)
  have CY := lh (fun W => insert_nil k hk 1 1 W)
  have CP := lh (fun W => rplace_any c hc hok 0 (by decide) k hk W)
  have CG := lh (fun W => rdigest_yes c hc hok k hk hv W)
  have EQP : Hid (∀ W, (Op.equalIn 10000 51 (.agg (pcP (0, plN c k 0))) (.agg (pcP (0, plN c k 0)))).run Try.prog W = .ok true W) := fun W => (eqP _ _ hp0 hp0 W).trans (by rw [decide_eq_true rfl])
  have hdl := dgN_lt c k hok
  have EQC : Hid (∀ W, (Op.equalIn 10000 46 (.agg (ceC true (dgN c k) 2 3)) (.agg (ceC true (dgN c k) 2 3))).run Try.prog W = .ok true W) := fun W => (eq_ce _ _ _ _ _ _ _ _ hdl hdl (i64_wf _ (by decide) (by decide)) (i64_wf _ (by decide) (by decide)) (i64_wf _ (by decide) (by decide)) (i64_wf _ (by decide) (by decide)) W).trans (by simp)
  have EQK : Hid (∀ W, (Op.equalIn 10000 42 (.agg k.cs) (.agg k.cs)).run Try.prog W = .ok true W) := fun W => eq_fl_yes k hk W
  have EQM : Hid (∀ W, (Op.equalIn 10000 46 (.agg (ceC true (dgN c k) 2 3)) (.agg #[.bool true, .int .u16 ((dgN c k : Nat) : Int), .int .i64 2, .int .i64 3])).run Try.prog W = .ok true W) := EQC
  change Hid (∀ W, Calls _ _ _ _ (fun e w' => ∃ tn fn B rt, e = _ ∧ TS tn fn B c eC w' ∧ _)) at CM
  change Hid (∀ tn fn B W, _ → Calls _ _ _ _ (fun e w' => e = .returned (.tuple #[.agg (pcP (0, plN c k 0)), .agg s0.ce, .bool true]) ∧ _)) at CL2 CF
  change Hid (∀ tn fn B W, _ → Calls _ _ _ _ (fun e w' => e = .returned (.tuple #[.agg (rP none), .agg (rC none), .bool false]) ∧ _)) at CL1
  change Hid (∀ tn fn B W, _ → Calls _ _ _ _ (fun e w' => e = .returned (.tuple #[.agg s0.k.cs, .bool true]) ∧ _)) at CO
  change Hid (∀ tn fn B W, _ → Calls _ _ _ _ (fun e w' => e = .returned (.tuple #[.agg s0.ce, .bool true]) ∧ _)) at CD
  change Hid (∀ tn fn B W, _ → Calls _ _ _ _ (fun e w' => e = .returned (.int .i64 1) ∧ _)) at CN
  change Hid (∀ tn fn B W, _ → Calls _ _ _ _ (fun e w' => e = .returned (.int .i64 0) ∧ _)) at CN0
  change Hid (∀ W, Calls _ _ #[_, _, .int .i64 0] _ (fun e w' => e = .returned (.agg (pcP (0, plN c k 0))) ∧ _)) at CP
  rw [hs0c] at CL2 CF CD
  rw [hs0k] at CO
  have PS : Hid ((pcP (0, plN c k 0)).size = (#[Value.int .i64 0, .int .i64 0] : Array Value).size) := rP_size (some ((0, plN c k 0), s0))
  have PI : Hid ((Try.prog.info? 51).map (·.size) = some (pcP (0, plN c k 0)).size) := by show _ = _; rw [PS.out]; exact i51c
  have PA := lh (pcP_all (0, plN c k 0))
  have QS := lh (rP_size none)
  have QI : Hid ((Try.prog.info? 51).map (·.size) = some (rP none).size) := by show _ = _; rw [rP_size]; exact i51c
  have QA := lh (rP_all none)
  have DS := lh (rC_size none)
  have DI : Hid ((Try.prog.info? 46).map (·.size) = some (rC none).size) := by show _ = _; rw [rC_size]; exact i46c
  have DA := lh (rC_all none)
  have ES : Hid ((ceC true (dgN c k) 2 3).size = zCe.size) := by rw [← hs0c]; exact rC_size (some ((0, 0), s0))
  have EI : Hid ((Try.prog.info? 46).map (·.size) = some (ceC true (dgN c k) 2 3).size) := by show _ = _; rw [ES.out]; exact i46c
  have EA := lh (ceC_all true (dgN c k) 2 3)
  have KY : Hid (k.cs.size = ZK.size) := by show _ = _; rw [Fl.cs_size _ hk, hZKS]
  have KZ := lh (fl_ik k hk)
  have KA := lh (Fl.cs_all k)
  have RY : Hid (c.cs.size = ZC.size) := by show _ = _; rw [cf_size c hc, hZS]
  have RZ := lh (cf_ic c hc)
  have RA := lh (cf_all c)
  clear i1 i2 i3 j1 j2 j3 l1 l2 l3 m1 m2 hs0 hs0k hs0c hin hpl hp0 hdl hok hv hZKS hZS
  generalize ceC true (dgN c k) 2 3 = cec at *
  generalize pcP (0, plN c k 0) = pp at *
  generalize oneC c (0, plN c k 0) s0 = one at *
  generalize rP none = pz at *
  generalize rC none = cz at *
  generalize dgN c k = dg at *
  generalize rfT c = rf at *
  generalize k.cs = kc at *
  clear hk
  obtain ⟨cc, hcc⟩ : ∃ x, x = c.cs := ⟨_, rfl⟩
  rw [← hcc] at CR CM CX CP CG RY RZ RA
  clear hcc hc
  have q51 := EQP.out
  have q46 := EQC.out
  have q46m := EQM.out
  have q42 := EQK.out
  have hz42 := z42.out
  have hz29 := z29.out
  have hz46 := zero46
  go_enter Try.func7, Try.ntmps7
  go_wp2_with fail
  refine (CR.out w).mono ?_
  rintro e V1 ⟨rfl, hy⟩
  replace K := lh (K.out.trans (hy.mono K.out.size))
  clear CR
  clear hy
  go_wp2_with (((with_reducible refine wpList_blk_store (op := ⟨none, .store 29 (.tmp 1) (.tmp 30), _, _, _, _⟩) ?sg1 29 (.tmp 1) (.tmp 30) ?so1 (V1.heap.size) cc ?sx1 ?sy1 (Blk.new V1 29 ZC) RY.out RZ.out RA.out ?_); (case sg1 => rfl); (case so1 => rfl); (case sx1 => rfl); (case sy1 => rfl)))
  intro V2 hA hF hB
  have hy := ((Below.refl V1.heap.size V1).alloc (Nat.le_refl _) (.cells ZC 29)).trans (hB _ (Nat.le_refl _))
  replace K := lh (K.out.trans (hy.mono K.out.size))
  have C1 := lh hA
  clear hA hF hB hy
  have L2 : (loadVar 29 ⟨V1.heap.size, 0, none⟩).run Try.prog V2 = .ok (.agg cc) V2 := run_blk_load (P := Try.prog) 29 (V1.heap.size) _ C1.out Try.underlying29 rfl RZ.out
  replace L2 := lh L2
  go_wp2_with (((with_reducible refine wpList_load_want (op := ⟨some 32, .load 29 (.tmp 1), _, _, _, _⟩) ?wg2 29 (.tmp 1) ?wo2 ⟨V1.heap.size, 0, none⟩ ?wx2 (.agg cc) L2.out ?_); (case wg2 => rfl); (case wo2 => rfl); (case wx2 => rfl)))
  clear L2
  have h1l := C1.out.lt
  have hk1 := K.out.size
  refine (CM.out V2).mono ?_
  rintro e V3 ⟨tn, fn, B, rt, rfl, ht, hfn, hrt, hrb, hy⟩
  replace K := lh (K.out.trans (hy.mono K.out.size))
  replace C1 := lh (C1.out.below hy C1.out.lt)
  have HT := lh ht
  have hfB : fn < B := ht.hF
  have hBt : B + (2 + c.st.toNat) ≤ tn := by have := ht.hT; omega
  have hqt := eqt_some ⟨tn, 0, none⟩
  clear ht hrb hrt CM EQP EQC EQM EQK
  clear hy
  go_wp2_with fail
  refine (CK.out V3).mono ?_
  rintro e V4 ⟨rfl, hy⟩
  replace K := lh (K.out.trans (hy.mono K.out.size))
  replace C1 := lh (C1.out.below hy C1.out.lt)
  replace HT := lh (HT.out.below hy)
  have h4l := HT.out.lt
  clear CK
  as_aux_lemma =>
    clear hy
    go_wp2_with (((with_reducible refine wpList_blk_store (op := ⟨none, .store 42 (.tmp 4) (.tmp 38), _, _, _, _⟩) ?sg3 42 (.tmp 4) (.tmp 38) ?so3 (V4.heap.size) kc ?sx3 ?sy3 (Blk.new V4 42 ZK) KY.out KZ.out KA.out ?_); (case sg3 => rfl); (case so3 => rfl); (case sx3 => rfl); (case sy3 => rfl)))
    have qC1N4 : V1.heap.size < V4.heap.size := C1.out.lt
    intro V5 hA hF hB
    have hy := ((Below.refl V4.heap.size V4).alloc (Nat.le_refl _) (.cells ZK 42)).trans (hB _ (Nat.le_refl _))
    replace K := lh (K.out.trans (hy.mono K.out.size))
    replace C1 := lh (C1.out.below hy C1.out.lt)
    replace HT := lh (HT.out.below hy)
    have N4 := lh hA
    clear hA hF hB hy
    have L4 : (loadVar 42 ⟨V4.heap.size, 0, none⟩).run Try.prog V5 = .ok (.agg kc) V5 := run_blk_load (P := Try.prog) 42 (V4.heap.size) _ N4.out Try.underlying42 rfl KZ.out
    replace L4 := lh L4
    go_wp2_with (((with_reducible refine wpList_load_want (op := ⟨some 41, .load 42 (.tmp 4), _, _, _, _⟩) ?wg4 42 (.tmp 4) ?wo4 ⟨V4.heap.size, 0, none⟩ ?wx4 (.agg kc) L4.out ?_); (case wg4 => rfl); (case wo4 => rfl); (case wx4 => rfl)))
    clear L4
    have h4b := N4.out.lt
    go_wp2_with fail
    refine (CI1.out tn fn B V5 HT.out).mono ?_
    rintro e V6 ⟨mv, rfl, hg, ha, ho⟩
    replace K := lh (K.out.trans (ha.below (by omega) K.out.size))
    replace C1 := lh (ha.blk C1.out (by omega))
    replace N4 := lh (ha.blk N4.out (by omega))
    replace HT := lh hg
    clear hg
    clear ha
    obtain ⟨a5, ka5, rfl⟩ := row_shape (show V6.ownsRow _ 123 41 mv 0 [] from ho)
    clear ho CI1
    as_aux_lemma =>
      have L5 : (loadVar 42 ⟨V4.heap.size, 0, none⟩).run Try.prog V6 = .ok (.agg kc) V6 := run_blk_load (P := Try.prog) 42 (V4.heap.size) _ N4.out Try.underlying42 rfl KZ.out
      replace L5 := lh L5
      go_wp2_with (((with_reducible refine wpList_load_want (op := ⟨some 47, .load 42 (.tmp 4), _, _, _, _⟩) ?wg5 42 (.tmp 4) ?wo5 ⟨V4.heap.size, 0, none⟩ ?wx5 (.agg kc) L5.out ?_); (case wg5 => rfl); (case wo5 => rfl); (case wx5 => rfl)))
      clear L5
      go_wp2_with fail
      refine (CI2.out tn fn B V6 HT.out).mono ?_
      rintro e V7 ⟨mv, rfl, hg, ha, ho⟩
      replace K := lh (K.out.trans (ha.below (by omega) K.out.size))
      replace C1 := lh (ha.blk C1.out (by omega))
      replace N4 := lh (ha.blk N4.out (by omega))
      replace HT := lh hg
      clear hg
      clear ha
      obtain ⟨a7, ka7, rfl⟩ := row_shape (show V7.ownsRow _ 123 41 mv 0 [] from ho)
      clear ho CI2
      as_aux_lemma =>
        have L6 : (loadVar 42 ⟨V4.heap.size, 0, none⟩).run Try.prog V7 = .ok (.agg kc) V7 := run_blk_load (P := Try.prog) 42 (V4.heap.size) _ N4.out Try.underlying42 rfl KZ.out
        replace L6 := lh L6
        go_wp2_with (((with_reducible refine wpList_load_want (op := ⟨some 53, .load 42 (.tmp 4), _, _, _, _⟩) ?wg6 42 (.tmp 4) ?wo6 ⟨V4.heap.size, 0, none⟩ ?wx6 (.agg kc) L6.out ?_); (case wg6 => rfl); (case wo6 => rfl); (case wx6 => rfl)))
        clear L6
        go_wp2_with fail
        refine (CI3.out tn fn B V7 HT.out).mono ?_
        rintro e V8 ⟨mv, rfl, hg, ha, ho⟩
        replace K := lh (K.out.trans (ha.below (by omega) K.out.size))
        replace C1 := lh (ha.blk C1.out (by omega))
        replace N4 := lh (ha.blk N4.out (by omega))
        replace HT := lh hg
        clear hg
        clear ha
        obtain ⟨a9, ka9, rfl⟩ := row_shape (show V8.ownsRow _ 123 41 mv 0 [] from ho)
        clear ho CI3
        as_aux_lemma =>
          have L7 : (loadVar 42 ⟨V4.heap.size, 0, none⟩).run Try.prog V8 = .ok (.agg kc) V8 := run_blk_load (P := Try.prog) 42 (V4.heap.size) _ N4.out Try.underlying42 rfl KZ.out
          replace L7 := lh L7
          go_wp2_with (((with_reducible refine wpList_load_want (op := ⟨some 59, .load 42 (.tmp 4), _, _, _, _⟩) ?wg7 42 (.tmp 4) ?wo7 ⟨V4.heap.size, 0, none⟩ ?wx7 (.agg kc) L7.out ?_); (case wg7 => rfl); (case wo7 => rfl); (case wx7 => rfl)))
          clear L7
          refine (CL2.out tn fn B V8 HT.out).mono ?_
          rintro e V9 ⟨rfl, hy⟩
          replace K := lh (K.out.trans (hy.mono K.out.size))
          replace C1 := lh (C1.out.below hy C1.out.lt)
          replace HT := lh (HT.out.below hy)
          replace N4 := lh (N4.out.below hy N4.out.lt)
          have hK9 := K.out.size
          have hT9 := HT.out.lt
          have hC1_9 := C1.out.lt
          have hN4_9 := N4.out.lt
          clear CL2
          as_aux_lemma =>
            clear hy
            have hal := (Below.refl V9.heap.size V9).alloc (Nat.le_refl _) (.cells #[.int .i64 0, .int .i64 0] 51)
            replace K := lh (K.out.trans (hal.mono K.out.size))
            replace C1 := lh (C1.out.below hal C1.out.lt)
            replace HT := lh (HT.out.below hal)
            replace N4 := lh (N4.out.below hal N4.out.lt)
            have X11 := lh (Blk.new V9 51 #[.int .i64 0, .int .i64 0])
            clear hal
            have hal := (Below.refl (V9.alloc (.cells #[.int .i64 0, .int .i64 0] 51)).heap.size (V9.alloc (.cells #[.int .i64 0, .int .i64 0] 51))).alloc (Nat.le_refl _) (.cells zCe 46)
            replace K := lh (K.out.trans (hal.mono K.out.size))
            replace C1 := lh (C1.out.below hal C1.out.lt)
            replace HT := lh (HT.out.below hal)
            replace N4 := lh (N4.out.below hal N4.out.lt)
            replace X11 := lh (X11.out.below hal X11.out.lt)
            have X12q := Blk.new (V9.alloc (.cells #[.int .i64 0, .int .i64 0] 51)) 46 zCe
            simp only [World.size_alloc] at X12q
            have X12 := lh X12q
            clear X12q
            clear hal
            go_wp2_with (((with_reducible refine wpList_blk_store (op := ⟨none, .store 51 (.tmp 11) (.tmp 61), _, _, _, _⟩) ?sg8 51 (.tmp 11) (.tmp 61) ?so8 (V9.heap.size) pp ?sx8 ?sy8 X11.out PS.out PI.out PA.out ?_); (case sg8 => rfl); (case so8 => rfl); (case sx8 => rfl); (case sy8 => rfl)))
            intro V10 hA hF hB
            replace K := lh (K.out.trans (hB _ (by omega)))
            replace C1 := lh (show Blk _ _ _ _ from (hF _ (by omega)).trans C1.out)
            replace HT := lh (HT.out.belowB (hB (tn + 1) (by omega)) (by omega))
            replace N4 := lh (show Blk _ _ _ _ from (hF _ (by omega)).trans N4.out)
            replace X12 := lh (show Blk _ _ _ _ from (hF _ (by omega)).trans X12.out)
            replace X11 := lh hA
            clear hA hF hB
            go_wp2_with (((with_reducible refine wpList_blk_store (op := ⟨none, .store 46 (.tmp 12) (.tmp 62), _, _, _, _⟩) ?sg9 46 (.tmp 12) (.tmp 62) ?so9 (V9.heap.size + 1) cec ?sx9 ?sy9 X12.out ES.out EI.out EA.out ?_); (case sg9 => rfl); (case so9 => rfl); (case sx9 => rfl); (case sy9 => rfl)))
            intro V11 hA hF hB
            replace K := lh (K.out.trans (hB _ (by omega)))
            replace C1 := lh (show Blk _ _ _ _ from (hF _ (by omega)).trans C1.out)
            replace HT := lh (HT.out.belowB (hB (tn + 1) (by omega)) (by omega))
            replace N4 := lh (show Blk _ _ _ _ from (hF _ (by omega)).trans N4.out)
            replace X11 := lh (show Blk _ _ _ _ from (hF _ (by omega)).trans X11.out)
            replace X12 := lh hA
            clear hA hF hB
            have L10 : (loadVar 42 ⟨V4.heap.size, 0, none⟩).run Try.prog V11 = .ok (.agg kc) V11 := run_blk_load (P := Try.prog) 42 (V4.heap.size) _ N4.out Try.underlying42 rfl KZ.out
            replace L10 := lh L10
            go_wp2_with (((with_reducible refine wpList_load_want (op := ⟨some 66, .load 42 (.tmp 4), _, _, _, _⟩) ?wg10 42 (.tmp 4) ?wo10 ⟨V4.heap.size, 0, none⟩ ?wx10 (.agg kc) L10.out ?_); (case wg10 => rfl); (case wo10 => rfl); (case wx10 => rfl)))
            clear L10
            refine (CL1.out tn fn B V11 HT.out).mono ?_
            rintro e V12 ⟨rfl, hy⟩
            replace K := lh (K.out.trans (hy.mono K.out.size))
            replace C1 := lh (C1.out.below hy C1.out.lt)
            replace HT := lh (HT.out.below hy)
            replace N4 := lh (N4.out.below hy N4.out.lt)
            replace X11 := lh (X11.out.below hy X11.out.lt)
            replace X12 := lh (X12.out.below hy X12.out.lt)
            have hK10 := K.out.size
            have hT10 := HT.out.lt
            have hC1_10 := C1.out.lt
            have hN4_10 := N4.out.lt
            have hX11_10 := X11.out.lt
            have hX12_10 := X12.out.lt
            clear CL1
            as_aux_lemma =>
              clear hy
              have hal := (Below.refl V12.heap.size V12).alloc (Nat.le_refl _) (.cells #[.int .i64 0, .int .i64 0] 51)
              replace K := lh (K.out.trans (hal.mono K.out.size))
              replace C1 := lh (C1.out.below hal C1.out.lt)
              replace HT := lh (HT.out.below hal)
              replace N4 := lh (N4.out.below hal N4.out.lt)
              replace X11 := lh (X11.out.below hal X11.out.lt)
              replace X12 := lh (X12.out.below hal X12.out.lt)
              have X14 := lh (Blk.new V12 51 #[.int .i64 0, .int .i64 0])
              clear hal
              have hal := (Below.refl (V12.alloc (.cells #[.int .i64 0, .int .i64 0] 51)).heap.size (V12.alloc (.cells #[.int .i64 0, .int .i64 0] 51))).alloc (Nat.le_refl _) (.cells zCe 46)
              replace K := lh (K.out.trans (hal.mono K.out.size))
              replace C1 := lh (C1.out.below hal C1.out.lt)
              replace HT := lh (HT.out.below hal)
              replace N4 := lh (N4.out.below hal N4.out.lt)
              replace X11 := lh (X11.out.below hal X11.out.lt)
              replace X12 := lh (X12.out.below hal X12.out.lt)
              replace X14 := lh (X14.out.below hal X14.out.lt)
              have X15q := Blk.new (V12.alloc (.cells #[.int .i64 0, .int .i64 0] 51)) 46 zCe
              simp only [World.size_alloc] at X15q
              have X15 := lh X15q
              clear X15q
              clear hal
              go_wp2_with (((with_reducible refine wpList_blk_store (op := ⟨none, .store 51 (.tmp 14) (.tmp 68), _, _, _, _⟩) ?sg11 51 (.tmp 14) (.tmp 68) ?so11 (V12.heap.size) pz ?sx11 ?sy11 X14.out QS.out QI.out QA.out ?_); (case sg11 => rfl); (case so11 => rfl); (case sx11 => rfl); (case sy11 => rfl)))
              intro V13 hA hF hB
              replace K := lh (K.out.trans (hB _ (by omega)))
              replace C1 := lh (show Blk _ _ _ _ from (hF _ (by omega)).trans C1.out)
              replace HT := lh (HT.out.belowB (hB (tn + 1) (by omega)) (by omega))
              replace N4 := lh (show Blk _ _ _ _ from (hF _ (by omega)).trans N4.out)
              replace X11 := lh (show Blk _ _ _ _ from (hF _ (by omega)).trans X11.out)
              replace X12 := lh (show Blk _ _ _ _ from (hF _ (by omega)).trans X12.out)
              replace X15 := lh (show Blk _ _ _ _ from (hF _ (by omega)).trans X15.out)
              replace X14 := lh hA
              clear hA hF hB
              go_wp2_with (((with_reducible refine wpList_blk_store (op := ⟨none, .store 46 (.tmp 15) (.tmp 69), _, _, _, _⟩) ?sg12 46 (.tmp 15) (.tmp 69) ?so12 (V12.heap.size + 1) cz ?sx12 ?sy12 X15.out DS.out DI.out DA.out ?_); (case sg12 => rfl); (case so12 => rfl); (case sx12 => rfl); (case sy12 => rfl)))
              intro V14 hA hF hB
              replace K := lh (K.out.trans (hB _ (by omega)))
              replace C1 := lh (show Blk _ _ _ _ from (hF _ (by omega)).trans C1.out)
              replace HT := lh (HT.out.belowB (hB (tn + 1) (by omega)) (by omega))
              replace N4 := lh (show Blk _ _ _ _ from (hF _ (by omega)).trans N4.out)
              replace X11 := lh (show Blk _ _ _ _ from (hF _ (by omega)).trans X11.out)
              replace X12 := lh (show Blk _ _ _ _ from (hF _ (by omega)).trans X12.out)
              replace X14 := lh (show Blk _ _ _ _ from (hF _ (by omega)).trans X14.out)
              replace X15 := lh hA
              clear hA hF hB
              have L13 : (loadVar 51 ⟨V9.heap.size, 0, none⟩).run Try.prog V14 = .ok (.agg pp) V14 := run_blk_load (P := Try.prog) 51 (V9.heap.size) _ X11.out Try.underlying51 rfl PI.out
              replace L13 := lh L13
              go_wp2_with (((with_reducible refine wpList_load_want (op := ⟨some 73, .load 51 (.tmp 11), _, _, _, _⟩) ?wg13 51 (.tmp 11) ?wo13 ⟨V9.heap.size, 0, none⟩ ?wx13 (.agg pp) L13.out ?_); (case wg13 => rfl); (case wo13 => rfl); (case wx13 => rfl)))
              clear L13
              refine (CO.out tn fn B V14 HT.out).mono ?_
              rintro e V15 ⟨rfl, hy⟩
              replace K := lh (K.out.trans (hy.mono K.out.size))
              replace C1 := lh (C1.out.below hy C1.out.lt)
              replace HT := lh (HT.out.below hy)
              replace N4 := lh (N4.out.below hy N4.out.lt)
              replace X11 := lh (X11.out.below hy X11.out.lt)
              replace X12 := lh (X12.out.below hy X12.out.lt)
              replace X14 := lh (X14.out.below hy X14.out.lt)
              replace X15 := lh (X15.out.below hy X15.out.lt)
              have hK11 := K.out.size
              have hT11 := HT.out.lt
              have hC1_11 := C1.out.lt
              have hN4_11 := N4.out.lt
              have hX11_11 := X11.out.lt
              have hX12_11 := X12.out.lt
              have hX14_11 := X14.out.lt
              have hX15_11 := X15.out.lt
              clear CO
              as_aux_lemma =>
                clear hy
                go_wp2_with (((with_reducible refine wpList_blk_store (op := ⟨none, .store 42 (.tmp 17) (.tmp 75), _, _, _, _⟩) ?sg14 42 (.tmp 17) (.tmp 75) ?so14 (V15.heap.size) kc ?sx14 ?sy14 (Blk.new V15 42 ZK) KY.out KZ.out KA.out ?_); (case sg14 => rfl); (case so14 => rfl); (case sx14 => rfl); (case sy14 => rfl)))
                have qC1X17 : V1.heap.size < V15.heap.size := C1.out.lt
                have qN4X17 : V4.heap.size < V15.heap.size := N4.out.lt
                have qX11X17 : V9.heap.size < V15.heap.size := X11.out.lt
                have qX12X17 : V9.heap.size + 1 < V15.heap.size := X12.out.lt
                have qX14X17 : V12.heap.size < V15.heap.size := X14.out.lt
                have qX15X17 : V12.heap.size + 1 < V15.heap.size := X15.out.lt
                intro V16 hA hF hB
                have hy := ((Below.refl V15.heap.size V15).alloc (Nat.le_refl _) (.cells ZK 42)).trans (hB _ (Nat.le_refl _))
                replace K := lh (K.out.trans (hy.mono K.out.size))
                replace C1 := lh (C1.out.below hy C1.out.lt)
                replace HT := lh (HT.out.below hy)
                replace N4 := lh (N4.out.below hy N4.out.lt)
                replace X11 := lh (X11.out.below hy X11.out.lt)
                replace X12 := lh (X12.out.below hy X12.out.lt)
                replace X14 := lh (X14.out.below hy X14.out.lt)
                replace X15 := lh (X15.out.below hy X15.out.lt)
                have X17 := lh hA
                clear hA hF hB hy
                have L15 : (loadVar 42 ⟨V4.heap.size, 0, none⟩).run Try.prog V16 = .ok (.agg kc) V16 := run_blk_load (P := Try.prog) 42 (V4.heap.size) _ N4.out Try.underlying42 rfl KZ.out
                replace L15 := lh L15
                go_wp2_with (((with_reducible refine wpList_load_want (op := ⟨some 79, .load 42 (.tmp 4), _, _, _, _⟩) ?wg15 42 (.tmp 4) ?wo15 ⟨V4.heap.size, 0, none⟩ ?wx15 (.agg kc) L15.out ?_); (case wg15 => rfl); (case wo15 => rfl); (case wx15 => rfl)))
                clear L15
                refine (CF.out tn fn B V16 HT.out).mono ?_
                rintro e V17 ⟨rfl, hy⟩
                replace K := lh (K.out.trans (hy.mono K.out.size))
                replace C1 := lh (C1.out.below hy C1.out.lt)
                replace HT := lh (HT.out.below hy)
                replace N4 := lh (N4.out.below hy N4.out.lt)
                replace X11 := lh (X11.out.below hy X11.out.lt)
                replace X12 := lh (X12.out.below hy X12.out.lt)
                replace X14 := lh (X14.out.below hy X14.out.lt)
                replace X15 := lh (X15.out.below hy X15.out.lt)
                replace X17 := lh (X17.out.below hy X17.out.lt)
                have hK12 := K.out.size
                have hT12 := HT.out.lt
                have hC1_12 := C1.out.lt
                have hN4_12 := N4.out.lt
                have hX11_12 := X11.out.lt
                have hX12_12 := X12.out.lt
                have hX14_12 := X14.out.lt
                have hX15_12 := X15.out.lt
                have hX17_12 := X17.out.lt
                clear CF
                as_aux_lemma =>
                  clear hy
                  have hal := (Below.refl V17.heap.size V17).alloc (Nat.le_refl _) (.cells #[.int .i64 0, .int .i64 0] 51)
                  replace K := lh (K.out.trans (hal.mono K.out.size))
                  replace C1 := lh (C1.out.below hal C1.out.lt)
                  replace HT := lh (HT.out.below hal)
                  replace N4 := lh (N4.out.below hal N4.out.lt)
                  replace X11 := lh (X11.out.below hal X11.out.lt)
                  replace X12 := lh (X12.out.below hal X12.out.lt)
                  replace X14 := lh (X14.out.below hal X14.out.lt)
                  replace X15 := lh (X15.out.below hal X15.out.lt)
                  replace X17 := lh (X17.out.below hal X17.out.lt)
                  have X19 := lh (Blk.new V17 51 #[.int .i64 0, .int .i64 0])
                  clear hal
                  have hal := (Below.refl (V17.alloc (.cells #[.int .i64 0, .int .i64 0] 51)).heap.size (V17.alloc (.cells #[.int .i64 0, .int .i64 0] 51))).alloc (Nat.le_refl _) (.cells zCe 46)
                  replace K := lh (K.out.trans (hal.mono K.out.size))
                  replace C1 := lh (C1.out.below hal C1.out.lt)
                  replace HT := lh (HT.out.below hal)
                  replace N4 := lh (N4.out.below hal N4.out.lt)
                  replace X11 := lh (X11.out.below hal X11.out.lt)
                  replace X12 := lh (X12.out.below hal X12.out.lt)
                  replace X14 := lh (X14.out.below hal X14.out.lt)
                  replace X15 := lh (X15.out.below hal X15.out.lt)
                  replace X17 := lh (X17.out.below hal X17.out.lt)
                  replace X19 := lh (X19.out.below hal X19.out.lt)
                  have X20q := Blk.new (V17.alloc (.cells #[.int .i64 0, .int .i64 0] 51)) 46 zCe
                  simp only [World.size_alloc] at X20q
                  have X20 := lh X20q
                  clear X20q
                  clear hal
                  go_wp2_with (((with_reducible refine wpList_blk_store (op := ⟨none, .store 51 (.tmp 19) (.tmp 81), _, _, _, _⟩) ?sg16 51 (.tmp 19) (.tmp 81) ?so16 (V17.heap.size) pp ?sx16 ?sy16 X19.out PS.out PI.out PA.out ?_); (case sg16 => rfl); (case so16 => rfl); (case sx16 => rfl); (case sy16 => rfl)))
                  intro V18 hA hF hB
                  replace K := lh (K.out.trans (hB _ (by omega)))
                  replace C1 := lh (show Blk _ _ _ _ from (hF _ (by omega)).trans C1.out)
                  replace HT := lh (HT.out.belowB (hB (tn + 1) (by omega)) (by omega))
                  replace N4 := lh (show Blk _ _ _ _ from (hF _ (by omega)).trans N4.out)
                  replace X11 := lh (show Blk _ _ _ _ from (hF _ (by omega)).trans X11.out)
                  replace X12 := lh (show Blk _ _ _ _ from (hF _ (by omega)).trans X12.out)
                  replace X14 := lh (show Blk _ _ _ _ from (hF _ (by omega)).trans X14.out)
                  replace X15 := lh (show Blk _ _ _ _ from (hF _ (by omega)).trans X15.out)
                  replace X17 := lh (show Blk _ _ _ _ from (hF _ (by omega)).trans X17.out)
                  replace X20 := lh (show Blk _ _ _ _ from (hF _ (by omega)).trans X20.out)
                  replace X19 := lh hA
                  clear hA hF hB
                  go_wp2_with (((with_reducible refine wpList_blk_store (op := ⟨none, .store 46 (.tmp 20) (.tmp 82), _, _, _, _⟩) ?sg17 46 (.tmp 20) (.tmp 82) ?so17 (V17.heap.size + 1) cec ?sx17 ?sy17 X20.out ES.out EI.out EA.out ?_); (case sg17 => rfl); (case so17 => rfl); (case sx17 => rfl); (case sy17 => rfl)))
                  intro V19 hA hF hB
                  replace K := lh (K.out.trans (hB _ (by omega)))
                  replace C1 := lh (show Blk _ _ _ _ from (hF _ (by omega)).trans C1.out)
                  replace HT := lh (HT.out.belowB (hB (tn + 1) (by omega)) (by omega))
                  replace N4 := lh (show Blk _ _ _ _ from (hF _ (by omega)).trans N4.out)
                  replace X11 := lh (show Blk _ _ _ _ from (hF _ (by omega)).trans X11.out)
                  replace X12 := lh (show Blk _ _ _ _ from (hF _ (by omega)).trans X12.out)
                  replace X14 := lh (show Blk _ _ _ _ from (hF _ (by omega)).trans X14.out)
                  replace X15 := lh (show Blk _ _ _ _ from (hF _ (by omega)).trans X15.out)
                  replace X17 := lh (show Blk _ _ _ _ from (hF _ (by omega)).trans X17.out)
                  replace X19 := lh (show Blk _ _ _ _ from (hF _ (by omega)).trans X19.out)
                  replace X20 := lh hA
                  clear hA hF hB
                  go_wp2_with fail
                  refine (CN.out tn fn B V19 HT.out).mono ?_
                  rintro e V20 ⟨rfl, hy⟩
                  replace K := lh (K.out.trans (hy.mono K.out.size))
                  replace C1 := lh (C1.out.below hy C1.out.lt)
                  replace HT := lh (HT.out.below hy)
                  replace N4 := lh (N4.out.below hy N4.out.lt)
                  replace X11 := lh (X11.out.below hy X11.out.lt)
                  replace X12 := lh (X12.out.below hy X12.out.lt)
                  replace X14 := lh (X14.out.below hy X14.out.lt)
                  replace X15 := lh (X15.out.below hy X15.out.lt)
                  replace X17 := lh (X17.out.below hy X17.out.lt)
                  replace X19 := lh (X19.out.below hy X19.out.lt)
                  replace X20 := lh (X20.out.below hy X20.out.lt)
                  have hK13 := K.out.size
                  have hT13 := HT.out.lt
                  have hC1_13 := C1.out.lt
                  have hN4_13 := N4.out.lt
                  have hX11_13 := X11.out.lt
                  have hX12_13 := X12.out.lt
                  have hX14_13 := X14.out.lt
                  have hX15_13 := X15.out.lt
                  have hX17_13 := X17.out.lt
                  have hX19_13 := X19.out.lt
                  have hX20_13 := X20.out.lt
                  clear CN
                  as_aux_lemma =>
                    clear hy
                    have L18 : (loadVar 42 ⟨V4.heap.size, 0, none⟩).run Try.prog V20 = .ok (.agg kc) V20 := run_blk_load (P := Try.prog) 42 (V4.heap.size) _ N4.out Try.underlying42 rfl KZ.out
                    replace L18 := lh L18
                    go_wp2_with (((with_reducible refine wpList_load_want (op := ⟨some 88, .load 42 (.tmp 4), _, _, _, _⟩) ?wg18 42 (.tmp 4) ?wo18 ⟨V4.heap.size, 0, none⟩ ?wx18 (.agg kc) L18.out ?_); (case wg18 => rfl); (case wo18 => rfl); (case wx18 => rfl)))
                    clear L18
                    refine (CD.out tn fn B V20 HT.out).mono ?_
                    rintro e V21 ⟨rfl, hg, ha⟩
                    replace K := lh (K.out.trans (ha.below (by omega) K.out.size))
                    replace C1 := lh (ha.blk C1.out (by omega))
                    replace N4 := lh (ha.blk N4.out (by omega))
                    replace X11 := lh (ha.blk X11.out (by omega))
                    replace X12 := lh (ha.blk X12.out (by omega))
                    replace X14 := lh (ha.blk X14.out (by omega))
                    replace X15 := lh (ha.blk X15.out (by omega))
                    replace X17 := lh (ha.blk X17.out (by omega))
                    replace X19 := lh (ha.blk X19.out (by omega))
                    replace X20 := lh (ha.blk X20.out (by omega))
                    replace HT := lh hg
                    clear hg
                    clear ha
                    go_wp2_with (((with_reducible refine wpList_blk_store (op := ⟨none, .store 46 (.tmp 23) (.tmp 90), _, _, _, _⟩) ?sg19 46 (.tmp 23) (.tmp 90) ?so19 (V21.heap.size) cec ?sx19 ?sy19 (Blk.new V21 46 zCe) ES.out EI.out EA.out ?_); (case sg19 => rfl); (case so19 => rfl); (case sx19 => rfl); (case sy19 => rfl)))
                    have qC1X23 : V1.heap.size < V21.heap.size := C1.out.lt
                    have qN4X23 : V4.heap.size < V21.heap.size := N4.out.lt
                    have qX11X23 : V9.heap.size < V21.heap.size := X11.out.lt
                    have qX12X23 : V9.heap.size + 1 < V21.heap.size := X12.out.lt
                    have qX14X23 : V12.heap.size < V21.heap.size := X14.out.lt
                    have qX15X23 : V12.heap.size + 1 < V21.heap.size := X15.out.lt
                    have qX17X23 : V15.heap.size < V21.heap.size := X17.out.lt
                    have qX19X23 : V17.heap.size < V21.heap.size := X19.out.lt
                    have qX20X23 : V17.heap.size + 1 < V21.heap.size := X20.out.lt
                    intro V22 hA hF hB
                    have hy := ((Below.refl V21.heap.size V21).alloc (Nat.le_refl _) (.cells zCe 46)).trans (hB _ (Nat.le_refl _))
                    replace K := lh (K.out.trans (hy.mono K.out.size))
                    replace C1 := lh (C1.out.below hy C1.out.lt)
                    replace HT := lh (HT.out.below hy)
                    replace N4 := lh (N4.out.below hy N4.out.lt)
                    replace X11 := lh (X11.out.below hy X11.out.lt)
                    replace X12 := lh (X12.out.below hy X12.out.lt)
                    replace X14 := lh (X14.out.below hy X14.out.lt)
                    replace X15 := lh (X15.out.below hy X15.out.lt)
                    replace X17 := lh (X17.out.below hy X17.out.lt)
                    replace X19 := lh (X19.out.below hy X19.out.lt)
                    replace X20 := lh (X20.out.below hy X20.out.lt)
                    have X23 := lh hA
                    clear hA hF hB hy
                    have L20 : (loadVar 29 ⟨V1.heap.size, 0, none⟩).run Try.prog V22 = .ok (.agg cc) V22 := run_blk_load (P := Try.prog) 29 (V1.heap.size) _ C1.out Try.underlying29 rfl RZ.out
                    replace L20 := lh L20
                    go_wp2_with (((with_reducible refine wpList_load_want (op := ⟨some 93, .load 29 (.tmp 1), _, _, _, _⟩) ?wg20 29 (.tmp 1) ?wo20 ⟨V1.heap.size, 0, none⟩ ?wx20 (.agg cc) L20.out ?_); (case wg20 => rfl); (case wo20 => rfl); (case wx20 => rfl)))
                    clear L20
                    refine (CX.out V22).mono ?_
                    rintro e V23 ⟨rfl, hy⟩
                    replace K := lh (K.out.trans (hy.mono K.out.size))
                    replace C1 := lh (C1.out.below hy C1.out.lt)
                    replace HT := lh (HT.out.below hy)
                    replace N4 := lh (N4.out.below hy N4.out.lt)
                    replace X11 := lh (X11.out.below hy X11.out.lt)
                    replace X12 := lh (X12.out.below hy X12.out.lt)
                    replace X14 := lh (X14.out.below hy X14.out.lt)
                    replace X15 := lh (X15.out.below hy X15.out.lt)
                    replace X17 := lh (X17.out.below hy X17.out.lt)
                    replace X19 := lh (X19.out.below hy X19.out.lt)
                    replace X20 := lh (X20.out.below hy X20.out.lt)
                    replace X23 := lh (X23.out.below hy X23.out.lt)
                    as_aux_lemma =>
                      clear hy
                      have L21 : (loadVar 42 ⟨V4.heap.size, 0, none⟩).run Try.prog V23 = .ok (.agg kc) V23 := run_blk_load (P := Try.prog) 42 (V4.heap.size) _ N4.out Try.underlying42 rfl KZ.out
                      replace L21 := lh L21
                      go_wp2_with (((with_reducible refine wpList_load_want (op := ⟨some 99, .load 42 (.tmp 4), _, _, _, _⟩) ?wg21 42 (.tmp 4) ?wo21 ⟨V4.heap.size, 0, none⟩ ?wx21 (.agg kc) L21.out ?_); (case wg21 => rfl); (case wo21 => rfl); (case wx21 => rfl)))
                      clear L21
                      refine (CY.out V23).mono ?_
                      rintro e V24 ⟨rfl, hy⟩
                      replace K := lh (K.out.trans (hy.mono K.out.size))
                      replace C1 := lh (C1.out.below hy C1.out.lt)
                      replace HT := lh (HT.out.below hy)
                      replace N4 := lh (N4.out.below hy N4.out.lt)
                      replace X11 := lh (X11.out.below hy X11.out.lt)
                      replace X12 := lh (X12.out.below hy X12.out.lt)
                      replace X14 := lh (X14.out.below hy X14.out.lt)
                      replace X15 := lh (X15.out.below hy X15.out.lt)
                      replace X17 := lh (X17.out.below hy X17.out.lt)
                      replace X19 := lh (X19.out.below hy X19.out.lt)
                      replace X20 := lh (X20.out.below hy X20.out.lt)
                      replace X23 := lh (X23.out.below hy X23.out.lt)
                      as_aux_lemma =>
                        clear hy
                        clear hz46
                        go_wp2_with fail
                        refine wp_region_held (S := (fun w' : World => Below (V24.heap.size) V24 w')) (by kernel_rfl) ?_
                        change wpAnyH _ _ _ _ _ _ _ _ V24.drew
                        have hy : Below V24.heap.size V24 V24.drew := (Below.refl _ _).drew
                        have hE0 : Below (V24.heap.size) V24 V24.drew := (Below.refl _ _).drew
                        clear hy
                        generalize V24.drew = Y18x0 at hE0  ⊢
                        have E0 := lh hE0
                        clear hE0
                        refine tkA 0 (?_) ?_ E0.out ?_
                        rotate_left
                        · (intro w1 hS; go_simp; try with_reducible rfl)
                        simp only [Act.put, tS1, tS2, tS3]
                        refine tkA 1 (?_) ?_ E0.out ?_
                        rotate_left
                        · (intro w1 hS; go_simp; try with_reducible rfl)
                        simp only [Act.put, tS1, tS2, tS3]
                        refine tkA 2 (?_) ?_ E0.out ?_
                        rotate_left
                        · (intro w1 hS; go_simp; try with_reducible rfl)
                        simp only [Act.put, tS1, tS2, tS3]
                        refine tkA 3 (?_) ?_ E0.out ?_
                        rotate_left
                        · (intro w1 hS; go_simp; try with_reducible rfl)
                        simp only [Act.put, tS1, tS2, tS3]
                        refine tkA 4 (?_) ?_ E0.out ?_
                        rotate_left
                        · (intro w1 hS; go_simp; try with_reducible rfl)
                        simp only [Act.put, tS1, tS2, tS3]
                        refine tkA 5 (?_) ?_ E0.out ?_
                        rotate_left
                        · (intro w1 hS; go_simp; try with_reducible rfl)
                        simp only [Act.put, tS1, tS2, tS3]
                        refine tkA 6 (?_) ?_ E0.out ?_
                        rotate_left
                        · (intro w1 hS; go_simp; try with_reducible rfl)
                        simp only [Act.put, tS1, tS2, tS3]
                        refine tkA 7 (?_) ?_ E0.out ?_
                        rotate_left
                        · (intro w1 hS; go_simp; try with_reducible rfl)
                        simp only [Act.put, tS1, tS2, tS3]
                        refine tkA 8 (?_) ?_ E0.out ?_
                        rotate_left
                        · (intro w1 hS; go_simp; try with_reducible rfl)
                        simp only [Act.put, tS1, tS2, tS3]
                        refine tkA 9 (?_) ?_ E0.out ?_
                        rotate_left
                        · (intro w1 hS; go_simp; try with_reducible rfl)
                        simp only [Act.put, tS1, tS2, tS3]
                        refine tkA 10 (?_) ?_ E0.out ?_
                        rotate_left
                        · (intro w1 hS; go_simp; try with_reducible rfl)
                        simp only [Act.put, tS1, tS2, tS3]
                        refine tkA 11 (?_) ?_ E0.out ?_
                        rotate_left
                        · (intro w1 hS; go_simp; try with_reducible rfl)
                        simp only [Act.put, tS1, tS2, tS3]
                        refine tkA 12 (?_) ?_ E0.out ?_
                        rotate_left
                        · (intro w1 hS; go_simp; try with_reducible rfl)
                        simp only [Act.put, tS1, tS2, tS3]
                        refine tkA 13 (?_) ?_ E0.out ?_
                        rotate_left
                        · (intro w1 hS; go_simp; try with_reducible rfl)
                        simp only [Act.put, tS1, tS2, tS3]
                        refine tkA 14 (?_) ?_ E0.out ?_
                        rotate_left
                        · (intro w1 hS; go_simp; try with_reducible rfl)
                        simp only [Act.put, tS1, tS2, tS3]
                        refine tkA 15 (?_) ?_ E0.out ?_
                        rotate_left
                        · (intro w1 hS; go_simp; try with_reducible rfl)
                        simp only [Act.put, tS1, tS2, tS3]
                        refine tkA 16 (?_) ?_ E0.out ?_
                        rotate_left
                        · (intro w1 hS; go_simp; try with_reducible rfl)
                        simp only [Act.put, tS1, tS2, tS3]
                        refine tkA 17 (?_) ?_ E0.out ?_
                        rotate_left
                        · (intro w1 hS; go_simp; try with_reducible rfl)
                        simp only [Act.put, tS1, tS2, tS3]
                        refine tkA 18 (?_) ?_ E0.out ?_
                        rotate_left
                        · (intro w1 hS; go_simp; try with_reducible rfl)
                        simp only [Act.put, tS1, tS2, tS3]
                        refine tkA 19 (.agg pp) ?_ E0.out ?_
                        · (intro w1 hS; have hW := hS; exact exec_load 51 (.tmp 11) rfl _ rfl _ (run_blk_load (P := Try.prog) 51 (V9.heap.size) _ (X11.out.below hW X11.out.lt) Try.underlying51 rfl PI.out))
                        simp only [Act.put, tS1, tS2, tS3]
                        refine tkA 20 (.agg cc) ?_ E0.out ?_
                        · (intro w1 hS; have hW := hS; exact exec_load 29 (.tmp 1) rfl _ rfl _ (run_blk_load (P := Try.prog) 29 (V1.heap.size) _ (C1.out.below hW C1.out.lt) Try.underlying29 rfl RZ.out))
                        simp only [Act.put, tS1, tS2, tS3]
                        refine tkA 21 (.agg kc) ?_ E0.out ?_
                        · (intro w1 hS; have hW := hS; exact exec_load 42 (.tmp 4) rfl _ rfl _ (run_blk_load (P := Try.prog) 42 (V4.heap.size) _ (N4.out.below hW N4.out.lt) Try.underlying42 rfl KZ.out))
                        simp only [Act.put, tS1, tS2, tS3]
                        refine tkO 22 (fun KK hK => ?_)
                        go_simp
                        refine (CP.out Y18x0).mono ?_
                        rintro e Y18x1 ⟨rfl, hy⟩
                        have E1 := lh (E0.out.trans (hy.mono E0.out.size))
                        have C1 := lh E1.out
                        clear hy E0
                        refine hK.out _ _ C1.out (fun _ => ?_)
                        clear hK KK
                        refine wpAnyH_mono (S' := (fun w' : World => Below Y18x1.heap.size Y18x1 w')) (fun w1 h => C1.out.trans (h.mono C1.out.size)) _ _ _ _ ?_
                        clear C1
                        try simp only [Act.put, tS1, tS2, tS3]
                        refine tkA 23 (?_) ?_ (Below.refl _ _) ?_
                        rotate_left
                        · (intro w1 hS; go_simp; try with_reducible rfl)
                        simp only [Act.put, tS1, tS2, tS3]
                        refine tkA 24 (?_) ?_ (Below.refl _ _) ?_
                        rotate_left
                        · (intro w1 hS; go_simp; try with_reducible rfl)
                        simp only [Act.put, tS1, tS2, tS3]
                        refine tkA 25 (?_) ?_ (Below.refl _ _) ?_
                        rotate_left
                        · (intro w1 hS; go_simp; try with_reducible rfl)
                        simp only [Act.put, tS1, tS2, tS3]
                        refine tkA 26 (.agg cec) ?_ (Below.refl _ _) ?_
                        · (intro w1 hS; have hW := E1.out.trans (hS.mono E1.out.size); exact exec_load 46 (.tmp 12) rfl _ rfl _ (run_blk_load (P := Try.prog) 46 (V9.heap.size + 1) _ (X12.out.below hW X12.out.lt) Try.underlying46 rfl EI.out))
                        simp only [Act.put, tS1, tS2, tS3]
                        refine tkA 27 (.agg cc) ?_ (Below.refl _ _) ?_
                        · (intro w1 hS; have hW := E1.out.trans (hS.mono E1.out.size); exact exec_load 29 (.tmp 1) rfl _ rfl _ (run_blk_load (P := Try.prog) 29 (V1.heap.size) _ (C1.out.below hW C1.out.lt) Try.underlying29 rfl RZ.out))
                        simp only [Act.put, tS1, tS2, tS3]
                        refine tkA 28 (.agg kc) ?_ (Below.refl _ _) ?_
                        · (intro w1 hS; have hW := E1.out.trans (hS.mono E1.out.size); exact exec_load 42 (.tmp 4) rfl _ rfl _ (run_blk_load (P := Try.prog) 42 (V4.heap.size) _ (N4.out.below hW N4.out.lt) Try.underlying42 rfl KZ.out))
                        simp only [Act.put, tS1, tS2, tS3]
                        refine tkO 29 (fun KK hK => ?_)
                        go_simp
                        refine (CG.out Y18x1).mono ?_
                        rintro e Y18x2 ⟨rfl, hy⟩
                        have E2 := lh (E1.out.trans (hy.mono E1.out.size))
                        have C2 := lh hy
                        clear hy E1
                        refine hK.out _ _ C2.out (fun _ => ?_)
                        clear hK KK
                        refine wpAnyH_mono (S' := (fun w' : World => Below Y18x2.heap.size Y18x2 w')) (fun w1 h => C2.out.trans (h.mono C2.out.size)) _ _ _ _ ?_
                        clear C2
                        try simp only [Act.put, tS1, tS2, tS3]
                        refine tkA 30 (?_) ?_ (Below.refl _ _) ?_
                        rotate_left
                        · (intro w1 hS; go_simp; try with_reducible rfl)
                        simp only [Act.put, tS1, tS2, tS3]
                        refine tkA 31 (?_) ?_ (Below.refl _ _) ?_
                        rotate_left
                        · (intro w1 hS; go_simp; try with_reducible rfl)
                        simp only [Act.put, tS1, tS2, tS3]
                        refine tkA 32 (?_) ?_ (Below.refl _ _) ?_
                        rotate_left
                        · (intro w1 hS; go_simp; try with_reducible rfl)
                        simp only [Act.put, tS1, tS2, tS3]
                        refine tkA 33 (?_) ?_ (Below.refl _ _) ?_
                        rotate_left
                        · (intro w1 hS; go_simp; try with_reducible rfl)
                        simp only [Act.put, tS1, tS2, tS3]
                        refine tkA 34 (?_) ?_ (Below.refl _ _) ?_
                        rotate_left
                        · (intro w1 hS; go_simp; try with_reducible rfl)
                        simp only [Act.put, tS1, tS2, tS3]
                        refine tkA 35 (?_) ?_ (Below.refl _ _) ?_
                        rotate_left
                        · (intro w1 hS; go_simp; try with_reducible rfl)
                        simp only [Act.put, tS1, tS2, tS3]
                        refine tkA 36 (?_) ?_ (Below.refl _ _) ?_
                        rotate_left
                        · (intro w1 hS; go_simp; try with_reducible rfl)
                        simp only [Act.put, tS1, tS2, tS3]
                        refine tkA 37 (?_) ?_ (Below.refl _ _) ?_
                        rotate_left
                        · (intro w1 hS; go_simp; try with_reducible rfl)
                        simp only [Act.put, tS1, tS2, tS3]
                        refine tkA 38 (?_) ?_ (Below.refl _ _) ?_
                        rotate_left
                        · (intro w1 hS; go_simp; try with_reducible rfl)
                        simp only [Act.put, tS1, tS2, tS3]
                        refine tkA 39 (?_) ?_ (Below.refl _ _) ?_
                        rotate_left
                        · (intro w1 hS; go_simp; try with_reducible rfl)
                        simp only [Act.put, tS1, tS2, tS3]
                        refine tkA 40 (?_) ?_ (Below.refl _ _) ?_
                        rotate_left
                        · (intro w1 hS; go_simp; try with_reducible rfl)
                        simp only [Act.put, tS1, tS2, tS3]
                        refine tkA 41 (.agg kc) ?_ (Below.refl _ _) ?_
                        · (intro w1 hS; have hW := E2.out.trans (hS.mono E2.out.size); exact exec_load 42 (.tmp 17) rfl _ rfl _ (run_blk_load (P := Try.prog) 42 (V15.heap.size) _ (X17.out.below hW X17.out.lt) Try.underlying42 rfl KZ.out))
                        simp only [Act.put, tS1, tS2, tS3]
                        refine tkA 42 (.agg kc) ?_ (Below.refl _ _) ?_
                        · (intro w1 hS; have hW := E2.out.trans (hS.mono E2.out.size); exact exec_load 42 (.tmp 4) rfl _ rfl _ (run_blk_load (P := Try.prog) 42 (V4.heap.size) _ (N4.out.below hW N4.out.lt) Try.underlying42 rfl KZ.out))
                        simp only [Act.put, tS1, tS2, tS3]
                        refine tkA 43 (?_) ?_ (Below.refl _ _) ?_
                        rotate_left
                        · (intro w1 hS; go_simp; try with_reducible rfl)
                        simp only [Act.put, tS1, tS2, tS3]
                        refine tkA 44 (?_) ?_ (Below.refl _ _) ?_
                        rotate_left
                        · (intro w1 hS; go_simp; try with_reducible rfl)
                        simp only [Act.put, tS1, tS2, tS3]
                        refine tkA 45 (?_) ?_ (Below.refl _ _) ?_
                        rotate_left
                        · (intro w1 hS; go_simp; try with_reducible rfl)
                        simp only [Act.put, tS1, tS2, tS3]
                        refine tkA 46 (?_) ?_ (Below.refl _ _) ?_
                        rotate_left
                        · (intro w1 hS; go_simp; try with_reducible rfl)
                        simp only [Act.put, tS1, tS2, tS3]
                        refine tkA 47 (?_) ?_ (Below.refl _ _) ?_
                        rotate_left
                        · (intro w1 hS; go_simp; try with_reducible rfl)
                        simp only [Act.put, tS1, tS2, tS3]
                        refine tkA 48 (?_) ?_ (Below.refl _ _) ?_
                        rotate_left
                        · (intro w1 hS; go_simp; try with_reducible rfl)
                        simp only [Act.put, tS1, tS2, tS3]
                        refine tkA 49 (.agg pp) ?_ (Below.refl _ _) ?_
                        · (intro w1 hS; have hW := E2.out.trans (hS.mono E2.out.size); exact exec_load 51 (.tmp 19) rfl _ rfl _ (run_blk_load (P := Try.prog) 51 (V17.heap.size) _ (X19.out.below hW X19.out.lt) Try.underlying51 rfl PI.out))
                        simp only [Act.put, tS1, tS2, tS3]
                        refine tkA 50 (.agg pp) ?_ (Below.refl _ _) ?_
                        · (intro w1 hS; have hW := E2.out.trans (hS.mono E2.out.size); exact exec_load 51 (.tmp 11) rfl _ rfl _ (run_blk_load (P := Try.prog) 51 (V9.heap.size) _ (X11.out.below hW X11.out.lt) Try.underlying51 rfl PI.out))
                        simp only [Act.put, tS1, tS2, tS3]
                        refine tkA 51 (?_) ?_ (Below.refl _ _) ?_
                        rotate_left
                        · (intro w1 hS; go_simp; try with_reducible rfl)
                        simp only [Act.put, tS1, tS2, tS3]
                        refine tkA 52 (?_) ?_ (Below.refl _ _) ?_
                        rotate_left
                        · (intro w1 hS; go_simp; try with_reducible rfl)
                        simp only [Act.put, tS1, tS2, tS3]
                        refine tkA 53 (?_) ?_ (Below.refl _ _) ?_
                        rotate_left
                        · (intro w1 hS; go_simp; try with_reducible rfl)
                        simp only [Act.put, tS1, tS2, tS3]
                        refine tkA 54 (.agg cec) ?_ (Below.refl _ _) ?_
                        · (intro w1 hS; have hW := E2.out.trans (hS.mono E2.out.size); exact exec_load 46 (.tmp 20) rfl _ rfl _ (run_blk_load (P := Try.prog) 46 (V17.heap.size + 1) _ (X20.out.below hW X20.out.lt) Try.underlying46 rfl EI.out))
                        simp only [Act.put, tS1, tS2, tS3]
                        refine tkA 55 (.agg cec) ?_ (Below.refl _ _) ?_
                        · (intro w1 hS; have hW := E2.out.trans (hS.mono E2.out.size); exact exec_load 46 (.tmp 12) rfl _ rfl _ (run_blk_load (P := Try.prog) 46 (V9.heap.size + 1) _ (X12.out.below hW X12.out.lt) Try.underlying46 rfl EI.out))
                        simp only [Act.put, tS1, tS2, tS3]
                        refine tkA 56 (?_) ?_ (Below.refl _ _) ?_
                        rotate_left
                        · (intro w1 hS; go_simp; try with_reducible rfl)
                        simp only [Act.put, tS1, tS2, tS3]
                        refine tkA 57 (?_) ?_ (Below.refl _ _) ?_
                        rotate_left
                        · (intro w1 hS; go_simp; try with_reducible rfl)
                        simp only [Act.put, tS1, tS2, tS3]
                        refine tkA 58 (?_) ?_ (Below.refl _ _) ?_
                        rotate_left
                        · (intro w1 hS; go_simp; try with_reducible rfl)
                        simp only [Act.put, tS1, tS2, tS3]
                        refine tkA 59 (?_) ?_ (Below.refl _ _) ?_
                        rotate_left
                        · (intro w1 hS; go_simp; try with_reducible rfl)
                        simp only [Act.put, tS1, tS2, tS3]
                        refine tkA 60 (?_) ?_ (Below.refl _ _) ?_
                        rotate_left
                        · (intro w1 hS; go_simp; try with_reducible rfl)
                        simp only [Act.put, tS1, tS2, tS3]
                        refine tkA 61 (?_) ?_ (Below.refl _ _) ?_
                        rotate_left
                        · (intro w1 hS; go_simp; try with_reducible rfl)
                        simp only [Act.put, tS1, tS2, tS3]
                        refine tkA 62 (?_) ?_ (Below.refl _ _) ?_
                        rotate_left
                        · (intro w1 hS; go_simp; try with_reducible rfl)
                        simp only [Act.put, tS1, tS2, tS3]
                        refine tkA 63 (?_) ?_ (Below.refl _ _) ?_
                        rotate_left
                        · (intro w1 hS; go_simp; try with_reducible rfl)
                        simp only [Act.put, tS1, tS2, tS3]
                        refine tkA 64 (?_) ?_ (Below.refl _ _) ?_
                        rotate_left
                        · (intro w1 hS; go_simp; try with_reducible rfl)
                        simp only [Act.put, tS1, tS2, tS3]
                        refine tkA 65 (?_) ?_ (Below.refl _ _) ?_
                        rotate_left
                        · (intro w1 hS; go_simp; try with_reducible rfl)
                        simp only [Act.put, tS1, tS2, tS3]
                        refine tkA 66 (.agg cec) ?_ (Below.refl _ _) ?_
                        · (intro w1 hS; have hW := E2.out.trans (hS.mono E2.out.size); exact exec_load 46 (.tmp 23) rfl _ rfl _ (run_blk_load (P := Try.prog) 46 (V21.heap.size) _ (X23.out.below hW X23.out.lt) Try.underlying46 rfl EI.out))
                        simp only [Act.put, tS1, tS2, tS3]
                        refine tkA 67 (.agg cec) ?_ (Below.refl _ _) ?_
                        · (intro w1 hS; have hW := E2.out.trans (hS.mono E2.out.size); exact exec_load 46 (.tmp 12) rfl _ rfl _ (run_blk_load (P := Try.prog) 46 (V9.heap.size + 1) _ (X12.out.below hW X12.out.lt) Try.underlying46 rfl EI.out))
                        simp only [Act.put, tS1, tS2, tS3]
                        refine tkA 68 (?_) ?_ (Below.refl _ _) ?_
                        rotate_left
                        · (intro w1 hS; go_simp; try with_reducible rfl)
                        simp only [Act.put, tS1, tS2, tS3]
                        refine tkA 69 (?_) ?_ (Below.refl _ _) ?_
                        rotate_left
                        · (intro w1 hS; go_simp; try with_reducible rfl)
                        simp only [Act.put, tS1, tS2, tS3]
                        refine tkA 70 (?_) ?_ (Below.refl _ _) ?_
                        rotate_left
                        · (intro w1 hS; go_simp; try with_reducible rfl)
                        simp only [Act.put, tS1, tS2, tS3]
                        refine tkA 71 (?_) ?_ (Below.refl _ _) ?_
                        rotate_left
                        · (intro w1 hS; go_simp; try with_reducible rfl)
                        simp only [Act.put, tS1, tS2, tS3]
                        refine tkO 72 (fun KK hK => ?_)
                        go_simp
                        refine (CN0.out tn fn B Y18x2 (HT.out.below E2.out)).mono ?_
                        rintro e Y18x3 ⟨rfl, hy⟩
                        have E3 := lh (E2.out.trans (hy.mono E2.out.size))
                        have C3 := lh hy
                        clear hy E2
                        refine hK.out _ _ C3.out (fun _ => ?_)
                        clear hK KK
                        refine wpAnyH_mono (S' := (fun w' : World => Below Y18x3.heap.size Y18x3 w')) (fun w1 h => C3.out.trans (h.mono C3.out.size)) _ _ _ _ ?_
                        clear C3
                        try simp only [Act.put, tS1, tS2, tS3]
                        refine tkA 73 (?_) ?_ (Below.refl _ _) ?_
                        rotate_left
                        · (intro w1 hS; go_simp; try with_reducible rfl)
                        simp only [Act.put, tS1, tS2, tS3]
                        refine tkA 74 (?_) ?_ (Below.refl _ _) ?_
                        rotate_left
                        · (intro w1 hS; go_simp; try with_reducible rfl)
                        simp only [Act.put, tS1, tS2, tS3]
                        refine tkA 75 (?_) ?_ (Below.refl _ _) ?_
                        rotate_left
                        · (intro w1 hS; go_simp; try with_reducible rfl)
                        simp only [Act.put, tS1, tS2, tS3]
                        refine tkA 76 (?_) ?_ (Below.refl _ _) ?_
                        rotate_left
                        · (intro w1 hS; go_simp; try with_reducible rfl)
                        simp only [Act.put, tS1, tS2, tS3]
                        refine tkA 77 (?_) ?_ (Below.refl _ _) ?_
                        rotate_left
                        · (intro w1 hS; go_simp; try with_reducible rfl)
                        simp only [Act.put, tS1, tS2, tS3]
                        refine tkA 78 (?_) ?_ (Below.refl _ _) ?_
                        rotate_left
                        · (intro w1 hS; go_simp; try with_reducible rfl)
                        simp only [Act.put, tS1, tS2, tS3]
                        refine tkA 79 (?_) ?_ (Below.refl _ _) ?_
                        rotate_left
                        · (intro w1 hS; go_simp; try with_reducible rfl)
                        simp only [Act.put, tS1, tS2, tS3]
                        refine tkA 80 (?_) ?_ (Below.refl _ _) ?_
                        rotate_left
                        · (intro w1 hS; go_simp; try with_reducible rfl)
                        simp only [Act.put, tS1, tS2, tS3]
                        refine tkA 81 (?_) ?_ (Below.refl _ _) ?_
                        rotate_left
                        · (intro w1 hS; go_simp; try with_reducible rfl)
                        simp only [Act.put, tS1, tS2, tS3]
                        refine tkA 82 (?_) ?_ (Below.refl _ _) ?_
                        rotate_left
                        · (intro w1 hS; go_simp; try with_reducible rfl)
                        simp only [Act.put, tS1, tS2, tS3]
                        refine tkA 83 (?_) ?_ (Below.refl _ _) ?_
                        rotate_left
                        · (intro w1 hS; go_simp; try with_reducible rfl)
                        simp only [Act.put, tS1, tS2]
                        refine wpAnyH_done (by kernel_rfl) ?_ _
                        have hy := E3.out
                        replace K := lh (K.out.trans (hy.mono K.out.size))
                        replace C1 := lh (C1.out.below hy C1.out.lt)
                        replace HT := lh (HT.out.below hy)
                        replace N4 := lh (N4.out.below hy N4.out.lt)
                        replace X11 := lh (X11.out.below hy X11.out.lt)
                        replace X12 := lh (X12.out.below hy X12.out.lt)
                        replace X14 := lh (X14.out.below hy X14.out.lt)
                        replace X15 := lh (X15.out.below hy X15.out.lt)
                        replace X17 := lh (X17.out.below hy X17.out.lt)
                        replace X19 := lh (X19.out.below hy X19.out.lt)
                        replace X20 := lh (X20.out.below hy X20.out.lt)
                        replace X23 := lh (X23.out.below hy X23.out.lt)
                        clear hy E3
                        go_wp2
                        go_ret
                        exact ⟨rfl, K.out⟩
end Go.Proofs.Ythldpnifodbheaa
