/- Texts that the walks of this seat lean on, put together. -/
import Derived.Deep.CutBlock
import Derived.Deep.DeepCutAuto
import Derived.LoopTactic
import Derived.Handy
import Derived.Laws.CopyOwn
import Derived.BigQuiet
import Derived.Deep.QuietTactic
import Derived.Shelf.Abstract
import Derived.Shelf.RegionOpen
import Derived.LoopIn
import Derived.BigFrame
import Derived.RangeFuncBound
import Derived.RangeFuncBox
import Derived.RangeFuncCalls
import Derived.RangeFuncLeaves
import Derived.RangeFuncNested
import Derived.RangeFuncRecord
import Derived.Test.YthldpnifodbheaaTk
import Derived.Test.YthldpnifodbheaaTl
import Derived.Test.YthldpnifodbheaaM31
import Derived.Test.YthldpnifodbheaaM32
namespace Go.Proofs.Ythldpnifodbheaa
open Go.RowKit Go.Lib
theorem digest_all (c : Cf) (hc : c.Fit) (hok : okC c = true) (k : Fl) (hk : k.Fit) (g : Nat) (w : World) (hF : Blk w g 110 (famC c)) :
    Calls Try.prog 29 #[.pointer (some ⟨g, 0, none⟩), .agg k.cs] w fun e w' => e = .returned (.int .u16 ((dgN c k : Nat) : Int)) ∧ Below w.heap.size w w' := by
  cases hv : vK k with
  | true => exact digest_yes c hc hok k hk hv g w hF
  | false =>
    have e : dgN c k = 0 := by unfold dgN; rw [hv]; rfl
    rw [e]
    exact digest_no k hk hv g w
theorem eqt_some (p : Addr) (W : World) : (binOp .eql 31 (.pointer (some p)) (.pointer none)).run Try.prog W = .ok (.bool false) W := by kernel_rfl
theorem zero42 (W : World) : (zeroValue 42).run Try.prog W = .ok (.agg k0.cs) W := by kernel_rfl
theorem rP_size (o : Option (Pl × Se)) : (rP o).size = (#[Value.int .i64 0, .int .i64 0] : Array Value).size := by cases o <;> rfl
theorem rC_size (o : Option (Pl × Se)) : (rC o).size = zCe.size := by cases o <;> rfl
theorem rP_all (o : Option (Pl × Se)) : (rP o).all (·.oneCell') = true := by cases o; exact pcP_all (0, 0); exact pcP_all _
theorem rC_all (o : Option (Pl × Se)) : (rC o).all (·.oneCell') = true := by cases o <;> exact ceC_all _ _ _ _
def oK : Option Se → Array Value | none => k0.cs | some s => s.k.cs
theorem oK_part (o : Option Se) : ((oC o).toList.drop 0).take (oK o).toList.length = (oK o).toList := by cases o <;> exact seC_key _ _ _ _ _
theorem oK_size (o : Option Se) : (oK o).size = k0.cs.size := by cases o; rfl; rename_i s; exact (Fl.cs_size _ s.fit).trans (Fl.cs_size _ k0_fit).symm
theorem oK_info (o : Option Se) : (Try.prog.info? 42).map (·.size) = some (oK o).size := by cases o; exact fl_ik _ k0_fit; rename_i s; exact fl_ik _ s.fit
theorem oK_all (o : Option Se) : (oK o).all (·.oneCell') = true := by cases o <;> exact Fl.cs_all _
set_option maxRecDepth 100000 in
set_option maxHeartbeats 4000000 in
theorem tlen_any (tn fn B : Nat) (cf : Cf) (c : Nat → Option Se) (w : World) (h : TS tn fn B cf c w) :
    Calls Try.prog 15 #[.pointer (some ⟨tn, 0, none⟩)] w fun e w' => e = .returned (.int .i64 ((itF c 0 (cf.st.toNat * cf.sz.toNat)).length : Int)) ∧ Below w.heap.size w w' := by
  have CL := lh (fun W h => lenT_any B cf.st.toNat cf.sz.toNat c W h)
  have K := lh (Below.refl w.heap.size w)
  have HT := lh h
  have TB := lh h.T
  have htw := h.lt
  have hft : fn < tn := by have := h.hF; have := h.hT; omega
  obtain ⟨T0', T1', T2'⟩ := tbC_get fn B cf.ev
  have T1 := lh T1'
  clear T0' T1' T2'
  obtain ⟨tc, htc⟩ : ∃ x, x = tbC fn B cf.ev := ⟨_, rfl⟩
  rw [← htc] at TB T1
  clear htc
  have hqt := eqt_some ⟨tn, 0, none⟩
  have c1 := (TB.out.cell 1).trans T1.out
  generalize (itF c 0 (cf.st.toNat * cf.sz.toNat)).length = n at *
  clear h
  go_enter Try.func15, Try.ntmps15
  go_wp2_with fail
  refine (CL.out w HT.out.G).mono ?_
  rintro e V1 ⟨rfl, hy⟩
  replace K := lh (K.out.trans (hy.mono K.out.size))
  replace HT := lh (HT.out.below hy)
  clear hy
  go_wp2
  go_ret
  exact ⟨rfl, K.out⟩
set_option maxRecDepth 100000 in
set_option maxHeartbeats 4000000 in
theorem owner_any (tn fn B : Nat) (cf : Cf) (c : Nat → Option Se) (x : Pl) (w : World) (h : TS tn fn B cf c w) :
    Calls Try.prog 17 #[.pointer (some ⟨tn, 0, none⟩), .agg (pcP x)] w fun e w' => e = .returned (.tuple #[.agg (oK (lkN cf.st.toNat cf.sz.toNat c x)), .bool (lkN cf.st.toNat cf.sz.toNat c x).isSome]) ∧ Below w.heap.size w w' := by
  have CG : Hid (∀ (W : World), GdT B cf.st.toNat cf.sz.toNat c W → Calls Try.prog 36 #[.pointer (some ⟨B + 1, 0, none⟩), .agg (pcP x)] W fun e w' => e = .returned (.tuple #[.agg (oC (lkN cf.st.toNat cf.sz.toNat c x)), .bool (lkN cf.st.toNat cf.sz.toNat c x).isSome]) ∧ Below W.heap.size W w') := fun W h => getT_any B cf.st.toNat cf.sz.toNat c (x.1 : Int) (x.2 : Int) W h
  have K := lh (Below.refl w.heap.size w)
  have HT := lh h
  have TB := lh h.T
  have htw := h.lt
  have hft : fn < tn := by have := h.hF; have := h.hT; omega
  obtain ⟨T0', T1', T2'⟩ := tbC_get fn B cf.ev
  have T1 := lh T1'
  clear T0' T1' T2'
  obtain ⟨tc, htc⟩ : ∃ x, x = tbC fn B cf.ev := ⟨_, rfl⟩
  rw [← htc] at TB T1
  clear htc
  have hqt := eqt_some ⟨tn, 0, none⟩
  obtain ⟨o, ho⟩ : ∃ o, o = lkN cf.st.toNat cf.sz.toNat c x := ⟨_, rfl⟩
  rw [← ho] at CG ⊢
  clear ho
  have OS : Hid ((oC o).size = zSe.size) := by show _ = _; rw [oC_size, zSe_size]
  have OI : Hid ((Try.prog.info? 84).map (·.size) = some (oC o).size) := by show _ = _; rw [oC_size]; exact i84
  have OA := lh (oC_all o)
  have KP := lh (oK_part o)
  have KS := lh (oK_size o)
  have KI := lh (oK_info o)
  have KI2 : Hid ((Try.prog.info? 42).map (·.size) = some (oK o).toList.length) := oK_info o
  have KA := lh (oK_all o)
  generalize oK o = ok at *
  generalize oC o = oc at *
  generalize o.isSome = ob at *
  have PI : Hid ((Try.prog.info? 51).map (·.size) = some (pcP x).size) := i51c
  have ZI : Hid ((Try.prog.info? 42).map (·.size) = some k0.cs.size) := fl_ik _ k0_fit
  generalize pcP x = pc at *
  clear h
  have hz42 := zero42
  go_enter Try.func17, Try.ntmps17
  have hal := (Below.refl w.heap.size w).alloc (Nat.le_refl _) (.cells pc 51)
  replace K := lh (K.out.trans (hal.mono K.out.size))
  replace HT := lh (HT.out.below hal)
  replace TB := lh (TB.out.below hal TB.out.lt)
  have P := lh (Blk.new w 51 pc)
  clear hal
  have hal := (Below.refl (w.alloc (.cells pc 51)).heap.size (w.alloc (.cells pc 51))).alloc (Nat.le_refl _) (.cells k0.cs 42)
  replace K := lh (K.out.trans (hal.mono K.out.size))
  replace HT := lh (HT.out.below hal)
  replace TB := lh (TB.out.below hal TB.out.lt)
  replace P := lh (P.out.below hal P.out.lt)
  have Rq := Blk.new (w.alloc (.cells pc 51)) 42 k0.cs
  simp only [World.size_alloc] at Rq
  have R := lh Rq
  clear Rq
  clear hal
  go_upto_region 3 with fail
  have hzV1 : Hid (((w.alloc (.cells pc 51)).alloc (.cells k0.cs 42)).heap.size = w.heap.size + 1 + 1) := by show _ = _; simp only [World.size_alloc]
  generalize ((w.alloc (.cells pc 51)).alloc (.cells k0.cs 42)) = V1 at *
  have hRl := R.out.lt
  clear hz42
  have hKV := K.out.size
  have hPV := P.out.lt
  have KB := lh (Below.refl V1.heap.size V1)
  refine wp_region_held (S := (fun w' : World => Blk w' (w.heap.size) 51 pc ∧ Blk w' (tn) 80 tc)) (by kernel_rfl) ?_
  change wpAnyH _ _ _ _ _ _ _ _ V1.drew
  have hy : Below V1.heap.size V1 V1.drew := (Below.refl _ _).drew
  replace K := lh (K.out.trans (hy.mono K.out.size))
  replace HT := lh (HT.out.below hy)
  replace TB := lh (TB.out.below hy TB.out.lt)
  replace P := lh (P.out.below hy P.out.lt)
  replace R := lh (R.out.below hy R.out.lt)
  replace KB := lh (KB.out.trans (hy.mono KB.out.size))
  clear hy
  generalize V1.drew = Y3h0 at *
  refine tkA 0 (?_) ?_ ⟨P.out, TB.out⟩ ?_
  rotate_left
  · (intro w1 hS; go_simp; try with_reducible rfl)
  simp only [Act.put, tS1, tS2, tS3]
  refine tkA 1 (?_) ?_ ⟨P.out, TB.out⟩ ?_
  rotate_left
  · (intro w1 hS; go_simp; try with_reducible rfl)
  simp only [Act.put, tS1, tS2, tS3]
  refine tkA 2 (?_) ?_ ⟨P.out, TB.out⟩ ?_
  rotate_left
  · (intro w1 hS; go_simp; try with_reducible rfl)
  simp only [Act.put, tS1, tS2, tS3]
  refine tkA 3 (?_) ?_ ⟨P.out, TB.out⟩ ?_
  rotate_left
  · (intro w1 hS; obtain ⟨hS0, hS1⟩ := hS; have q := (hS1.cell 1).trans T1.out; go_simp; try with_reducible rfl)
  simp only [Act.put, tS1, tS2, tS3]
  refine tkA 4 (.agg pc) ?_ ⟨P.out, TB.out⟩ ?_
  · (intro w1 hS; obtain ⟨hS0, hS1⟩ := hS; exact exec_load 51 (.tmp 3) rfl _ rfl _ (run_blk_load (P := Try.prog) 51 (w.heap.size) _ hS0 Try.underlying51 rfl PI.out))
  simp only [Act.put, tS1, tS2, tS3]
  refine tkB 5 9 (fun KK hK => ?_) (fun KK hK => ?_)
  · skip
    go_simp
    refine (CG.out Y3h0 HT.out.G).mono ?_
    rintro e Y3h1 ⟨rfl, hy⟩
    replace K := lh (K.out.trans (hy.mono K.out.size))
    replace HT := lh (HT.out.below hy)
    replace TB := lh (TB.out.below hy TB.out.lt)
    replace P := lh (P.out.below hy P.out.lt)
    replace R := lh (R.out.below hy R.out.lt)
    replace KB := lh (KB.out.trans (hy.mono KB.out.size))
    clear hy
    refine hK.out _ _ ⟨P.out, TB.out⟩ (fun _ => ?_)
    clear hK KK
    try simp only [Act.put, tS1, tS2, tS3]
    refine tkA 6 (?_) ?_ ⟨P.out, TB.out⟩ ?_
    rotate_left
    · (intro w1 hS; go_simp; try with_reducible rfl)
    simp only [Act.put, tS1, tS2, tS3]
    refine tkA 7 (?_) ?_ ⟨P.out, TB.out⟩ ?_
    rotate_left
    · (intro w1 hS; go_simp; try with_reducible rfl)
    simp only [Act.put, tS1, tS2, tS3]
    refine tkA 8 (?_) ?_ ⟨P.out, TB.out⟩ ?_
    rotate_left
    · (intro w1 hS; go_simp; try with_reducible rfl)
    simp only [Act.put, tS1, tS2, tS3]
    have hz84 := zero84
    refine tkO 9 (fun KK hK => ?_)
    go_simp
    have pb := Blk.new Y3h1 84 zSe
    have hy := (Below.refl Y3h1.heap.size Y3h1).alloc (Nat.le_refl _) (.cells zSe 84)
    obtain ⟨gX, hgX⟩ : ∃ g, g = Y3h1.heap.size := ⟨_, rfl⟩
    have hg0X : V1.heap.size ≤ gX := by rw [hgX]; exact KB.out.size
    replace K := lh (K.out.trans (hy.mono K.out.size))
    replace HT := lh (HT.out.below hy)
    replace TB := lh (TB.out.below hy TB.out.lt)
    replace P := lh (P.out.below hy P.out.lt)
    replace R := lh (R.out.below hy R.out.lt)
    replace KB := lh (KB.out.trans (hy.mono KB.out.size))
    rw [← hgX] at pb ⊢
    have X := lh pb
    clear pb hy hgX
    generalize Y3h1.alloc (.cells zSe 84) = Y3h2 at *
    refine hK.out _ _ ⟨P.out, TB.out⟩ (fun _ => ?_)
    clear hK KK
    try simp only [Act.put, tS1, tS2, tS3]
    clear hz84
    refine tkO 10 (fun KK hK => ?_)
    rw [if_pos (by rfl)]
    refine wp_blk_store 84 (.tmp 6) (.tmp 18) rfl oc rfl rfl X.out OS.out OI.out OA.out ?_
    intro Y3h3 hA hF hB
    replace K := lh (K.out.trans (hB _ (by omega)))
    replace HT := lh (HT.out.belowB (hB (w.heap.size) (by omega)) (by omega))
    replace TB := lh (show Blk _ _ _ _ from (hF _ (by omega)).trans TB.out)
    replace P := lh (show Blk _ _ _ _ from (hF _ (by omega)).trans P.out)
    replace R := lh (show Blk _ _ _ _ from (hF _ (by omega)).trans R.out)
    replace KB := lh (KB.out.trans (hB _ (by omega)))
    replace X := lh hA
    clear hA hF hB
    refine hK.out _ _ ⟨P.out, TB.out⟩ (fun _ => ?_)
    clear hK KK
    try simp only [Act.put]
    refine tkA 11 (?_) ?_ ⟨P.out, TB.out⟩ ?_
    rotate_left
    · (intro w1 hS; go_simp; try with_reducible rfl)
    simp only [Act.put, tS1, tS2, tS3]
    refine wpAnyH_done (by kernel_rfl) ?_ _
    clear KB
    clear CG
    have L1 : (loadVar 42 ⟨gX, 0, none⟩).run Try.prog Y3h3 = .ok (.agg ok) Y3h3 := by have h := run_part_load (P := Try.prog) 42 0 ok.toList _ X.out KP.out Try.underlying42 rfl KI2.out; rwa [Array.toArray_toList] at h
    replace L1 := lh L1
    go_wp2_with (first | ((with_reducible refine wpList_load_want (op := ⟨some 21, .load 42 (.tmp 20), _, _, _, _⟩) ?wg1 42 (.tmp 20) ?wo1 ⟨gX, 0, none⟩ ?wx1 (.agg ok) L1.out ?_); (case wg1 => rfl); (case wo1 => rfl); (case wx1 => rfl)) | ((with_reducible refine wpList_blk_store (op := ⟨none, .store 42 (.tmp 4) (.tmp 21), _, _, _, _⟩) ?sg2 42 (.tmp 4) (.tmp 21) ?so2 (w.heap.size + 1) ok ?sx2 ?sy2 R.out KS.out KI.out KA.out ?_); (case sg2 => rfl); (case so2 => rfl); (case sx2 => rfl); (case sy2 => rfl)))
    clear L1
    intro V2 hA hF hB
    replace K := lh (K.out.trans (hB _ (by omega)))
    replace X := lh (show Blk _ _ _ _ from (hF _ (by omega)).trans X.out)
    replace R := lh hA
    clear hA hF hB
    go_wp2
    have hrun := run_blk_load (P := Try.prog) 42 (w.heap.size + 1) _ R.out Try.underlying42 rfl KI.out
    exact bodyPost_ret (results_cell_tmp 4 42 5 (w.heap.size + 1) _ rfl rfl hrun) rfl ⟨rfl, K.out⟩
  · skip
    have hz84 := zero84
    go_simp
    have pb := Blk.new Y3h0 84 zSe
    have hy := (Below.refl Y3h0.heap.size Y3h0).alloc (Nat.le_refl _) (.cells zSe 84)
    obtain ⟨gX, hgX⟩ : ∃ g, g = Y3h0.heap.size := ⟨_, rfl⟩
    have hg0X : V1.heap.size ≤ gX := by rw [hgX]; exact KB.out.size
    replace K := lh (K.out.trans (hy.mono K.out.size))
    replace HT := lh (HT.out.below hy)
    replace TB := lh (TB.out.below hy TB.out.lt)
    replace P := lh (P.out.below hy P.out.lt)
    replace R := lh (R.out.below hy R.out.lt)
    replace KB := lh (KB.out.trans (hy.mono KB.out.size))
    rw [← hgX] at pb ⊢
    have X := lh pb
    clear pb hy hgX
    generalize Y3h0.alloc (.cells zSe 84) = Y3h1 at *
    refine hK.out _ _ ⟨P.out, TB.out⟩ (fun _ => ?_)
    clear hK KK
    try simp only [Act.put, tS1, tS2, tS3]
    clear hz84
    refine tkO 5 (fun KK hK => ?_)
    go_simp
    refine (CG.out Y3h1 HT.out.G).mono ?_
    rintro e Y3h2 ⟨rfl, hy⟩
    replace K := lh (K.out.trans (hy.mono K.out.size))
    replace HT := lh (HT.out.below hy)
    replace TB := lh (TB.out.below hy TB.out.lt)
    replace P := lh (P.out.below hy P.out.lt)
    replace R := lh (R.out.below hy R.out.lt)
    replace KB := lh (KB.out.trans (hy.mono KB.out.size))
    replace X := lh (X.out.below hy X.out.lt)
    clear hy
    refine hK.out _ _ ⟨P.out, TB.out⟩ (fun _ => ?_)
    clear hK KK
    try simp only [Act.put, tS1, tS2, tS3]
    refine tkA 6 (?_) ?_ ⟨P.out, TB.out⟩ ?_
    rotate_left
    · (intro w1 hS; go_simp; try with_reducible rfl)
    simp only [Act.put, tS1, tS2, tS3]
    refine tkA 7 (?_) ?_ ⟨P.out, TB.out⟩ ?_
    rotate_left
    · (intro w1 hS; go_simp; try with_reducible rfl)
    simp only [Act.put, tS1, tS2, tS3]
    refine tkA 8 (?_) ?_ ⟨P.out, TB.out⟩ ?_
    rotate_left
    · (intro w1 hS; go_simp; try with_reducible rfl)
    simp only [Act.put, tS1, tS2, tS3]
    refine tkO 10 (fun KK hK => ?_)
    rw [if_pos (by rfl)]
    refine wp_blk_store 84 (.tmp 6) (.tmp 18) rfl oc rfl rfl X.out OS.out OI.out OA.out ?_
    intro Y3h3 hA hF hB
    replace K := lh (K.out.trans (hB _ (by omega)))
    replace HT := lh (HT.out.belowB (hB (w.heap.size) (by omega)) (by omega))
    replace TB := lh (show Blk _ _ _ _ from (hF _ (by omega)).trans TB.out)
    replace P := lh (show Blk _ _ _ _ from (hF _ (by omega)).trans P.out)
    replace R := lh (show Blk _ _ _ _ from (hF _ (by omega)).trans R.out)
    replace KB := lh (KB.out.trans (hB _ (by omega)))
    replace X := lh hA
    clear hA hF hB
    refine hK.out _ _ ⟨P.out, TB.out⟩ (fun _ => ?_)
    clear hK KK
    try simp only [Act.put]
    refine tkA 11 (?_) ?_ ⟨P.out, TB.out⟩ ?_
    rotate_left
    · (intro w1 hS; go_simp; try with_reducible rfl)
    simp only [Act.put, tS1, tS2, tS3]
    refine wpAnyH_done (by kernel_rfl) ?_ _
    clear KB
    clear CG
    have L3 : (loadVar 42 ⟨gX, 0, none⟩).run Try.prog Y3h3 = .ok (.agg ok) Y3h3 := by have h := run_part_load (P := Try.prog) 42 0 ok.toList _ X.out KP.out Try.underlying42 rfl KI2.out; rwa [Array.toArray_toList] at h
    replace L3 := lh L3
    go_wp2_with (first | ((with_reducible refine wpList_load_want (op := ⟨some 21, .load 42 (.tmp 20), _, _, _, _⟩) ?wg3 42 (.tmp 20) ?wo3 ⟨gX, 0, none⟩ ?wx3 (.agg ok) L3.out ?_); (case wg3 => rfl); (case wo3 => rfl); (case wx3 => rfl)) | ((with_reducible refine wpList_blk_store (op := ⟨none, .store 42 (.tmp 4) (.tmp 21), _, _, _, _⟩) ?sg4 42 (.tmp 4) (.tmp 21) ?so4 (w.heap.size + 1) ok ?sx4 ?sy4 R.out KS.out KI.out KA.out ?_); (case sg4 => rfl); (case so4 => rfl); (case sx4 => rfl); (case sy4 => rfl)))
    clear L3
    intro V2 hA hF hB
    replace K := lh (K.out.trans (hB _ (by omega)))
    replace X := lh (show Blk _ _ _ _ from (hF _ (by omega)).trans X.out)
    replace R := lh hA
    clear hA hF hB
    go_wp2
    have hrun := run_blk_load (P := Try.prog) 42 (w.heap.size + 1) _ R.out Try.underlying42 rfl KI.out
    exact bodyPost_ret (results_cell_tmp 4 42 5 (w.heap.size + 1) _ rfl rfl hrun) rfl ⟨rfl, K.out⟩
set_option maxRecDepth 100000 in
set_option maxHeartbeats 4000000 in
theorem free_any (tn fn B : Nat) (cf : Cf) (c : Nat → Option Se) (x : Pl) (w : World) (h : TS tn fn B cf c w) :
    Calls Try.prog 51 #[.pointer (some ⟨tn, 0, none⟩), .agg (pcP x)] w fun e w' => e = .returned (.bool (decide (inP cf.st.toNat cf.sz.toNat (x.1 : Int) (x.2 : Int)) && !(lkN cf.st.toNat cf.sz.toNat c x).isSome)) ∧ Below w.heap.size w w' := by
  have CI := lh (fun W h => inT_any B cf.st.toNat cf.sz.toNat c (x.1 : Int) (x.2 : Int) W h)
  change Hid (∀ W, _ → Calls _ _ #[_, .agg (pcP x)] _ _) at CI
  generalize decide (inP cf.st.toNat cf.sz.toNat (x.1 : Int) (x.2 : Int)) = qi at *
  have CG : Hid (∀ (W : World), GdT B cf.st.toNat cf.sz.toNat c W → Calls Try.prog 36 #[.pointer (some ⟨B + 1, 0, none⟩), .agg (pcP x)] W fun e w' => e = .returned (.tuple #[.agg (oC (lkN cf.st.toNat cf.sz.toNat c x)), .bool (lkN cf.st.toNat cf.sz.toNat c x).isSome]) ∧ Below W.heap.size W w') := fun W h => getT_any B cf.st.toNat cf.sz.toNat c (x.1 : Int) (x.2 : Int) W h
  have K := lh (Below.refl w.heap.size w)
  have HT := lh h
  have TB := lh h.T
  have htw := h.lt
  have hft : fn < tn := by have := h.hF; have := h.hT; omega
  obtain ⟨T0', T1', T2'⟩ := tbC_get fn B cf.ev
  have T1 := lh T1'
  clear T0' T1' T2'
  obtain ⟨tc, htc⟩ : ∃ x, x = tbC fn B cf.ev := ⟨_, rfl⟩
  rw [← htc] at TB T1
  clear htc
  have hqt := eqt_some ⟨tn, 0, none⟩
  obtain ⟨o, ho⟩ : ∃ o, o = lkN cf.st.toNat cf.sz.toNat c x := ⟨_, rfl⟩
  rw [← ho] at CG ⊢
  clear ho
  have OS : Hid ((oC o).size = zSe.size) := by show _ = _; rw [oC_size, zSe_size]
  have OI : Hid ((Try.prog.info? 84).map (·.size) = some (oC o).size) := by show _ = _; rw [oC_size]; exact i84
  have OA := lh (oC_all o)
  have KP := lh (oK_part o)
  have KS := lh (oK_size o)
  have KI := lh (oK_info o)
  have KI2 : Hid ((Try.prog.info? 42).map (·.size) = some (oK o).toList.length) := oK_info o
  have KA := lh (oK_all o)
  generalize oK o = ok at *
  generalize oC o = oc at *
  generalize o.isSome = ob at *
  have PI : Hid ((Try.prog.info? 51).map (·.size) = some (pcP x).size) := i51c
  generalize pcP x = pc at *
  clear h KP KS KI KI2 KA
  go_enter Try.func51, Try.ntmps51
  have hal := (Below.refl w.heap.size w).alloc (Nat.le_refl _) (.cells pc 51)
  replace K := lh (K.out.trans (hal.mono K.out.size))
  replace HT := lh (HT.out.below hal)
  replace TB := lh (TB.out.below hal TB.out.lt)
  have P := lh (Blk.new w 51 pc)
  clear hal
  go_upto_region 1 with fail
  have hzV1 : Hid ((w.alloc (.cells pc 51)).heap.size = w.heap.size + 1) := by show _ = _; simp only [World.size_alloc]
  generalize (w.alloc (.cells pc 51)) = V1 at *
  have hKV := K.out.size
  have hPV := P.out.lt
  have KB := lh (Below.refl V1.heap.size V1)
  refine wp_region_held (S := (fun w' : World => Blk w' (w.heap.size) 51 pc ∧ Blk w' (tn) 80 tc)) (by kernel_rfl) ?_
  change wpAnyH _ _ _ _ _ _ _ _ V1.drew
  have hy : Below V1.heap.size V1 V1.drew := (Below.refl _ _).drew
  replace K := lh (K.out.trans (hy.mono K.out.size))
  replace HT := lh (HT.out.below hy)
  replace TB := lh (TB.out.below hy TB.out.lt)
  replace P := lh (P.out.below hy P.out.lt)
  replace KB := lh (KB.out.trans (hy.mono KB.out.size))
  clear hy
  generalize V1.drew = Y1h0 at *
  refine tkA 0 (?_) ?_ ⟨P.out, TB.out⟩ ?_
  rotate_left
  · (intro w1 hS; go_simp; try with_reducible rfl)
  simp only [Act.put, tS1, tS2, tS3]
  refine tkA 1 (?_) ?_ ⟨P.out, TB.out⟩ ?_
  rotate_left
  · (intro w1 hS; go_simp; try with_reducible rfl)
  simp only [Act.put, tS1, tS2, tS3]
  refine tkA 2 (?_) ?_ ⟨P.out, TB.out⟩ ?_
  rotate_left
  · (intro w1 hS; go_simp; try with_reducible rfl)
  simp only [Act.put, tS1, tS2, tS3]
  refine tkA 3 (?_) ?_ ⟨P.out, TB.out⟩ ?_
  rotate_left
  · (intro w1 hS; obtain ⟨hS0, hS1⟩ := hS; have q := (hS1.cell 1).trans T1.out; go_simp; try with_reducible rfl)
  simp only [Act.put, tS1, tS2, tS3]
  refine tkA 4 (.agg pc) ?_ ⟨P.out, TB.out⟩ ?_
  · (intro w1 hS; obtain ⟨hS0, hS1⟩ := hS; exact exec_load 51 (.tmp 3) rfl _ rfl _ (run_blk_load (P := Try.prog) 51 (w.heap.size) _ hS0 Try.underlying51 rfl PI.out))
  simp only [Act.put, tS1, tS2, tS3]
  refine tkB 5 9 (fun KK hK => ?_) (fun KK hK => ?_)
  · skip
    go_simp
    refine (CG.out Y1h0 HT.out.G).mono ?_
    rintro e Y1h1 ⟨rfl, hy⟩
    replace K := lh (K.out.trans (hy.mono K.out.size))
    replace HT := lh (HT.out.below hy)
    replace TB := lh (TB.out.below hy TB.out.lt)
    replace P := lh (P.out.below hy P.out.lt)
    replace KB := lh (KB.out.trans (hy.mono KB.out.size))
    clear hy
    refine hK.out _ _ ⟨P.out, TB.out⟩ (fun _ => ?_)
    clear hK KK
    try simp only [Act.put, tS1, tS2, tS3]
    refine tkA 6 (?_) ?_ ⟨P.out, TB.out⟩ ?_
    rotate_left
    · (intro w1 hS; go_simp; try with_reducible rfl)
    simp only [Act.put, tS1, tS2, tS3]
    refine tkA 7 (?_) ?_ ⟨P.out, TB.out⟩ ?_
    rotate_left
    · (intro w1 hS; go_simp; try with_reducible rfl)
    simp only [Act.put, tS1, tS2, tS3]
    refine tkA 8 (?_) ?_ ⟨P.out, TB.out⟩ ?_
    rotate_left
    · (intro w1 hS; go_simp; try with_reducible rfl)
    simp only [Act.put, tS1, tS2, tS3]
    have hz84 := zero84
    refine tkO 9 (fun KK hK => ?_)
    go_simp
    have pb := Blk.new Y1h1 84 zSe
    have hy := (Below.refl Y1h1.heap.size Y1h1).alloc (Nat.le_refl _) (.cells zSe 84)
    obtain ⟨gX, hgX⟩ : ∃ g, g = Y1h1.heap.size := ⟨_, rfl⟩
    have hg0X : V1.heap.size ≤ gX := by rw [hgX]; exact KB.out.size
    replace K := lh (K.out.trans (hy.mono K.out.size))
    replace HT := lh (HT.out.below hy)
    replace TB := lh (TB.out.below hy TB.out.lt)
    replace P := lh (P.out.below hy P.out.lt)
    replace KB := lh (KB.out.trans (hy.mono KB.out.size))
    rw [← hgX] at pb ⊢
    have X := lh pb
    clear pb hy hgX
    generalize Y1h1.alloc (.cells zSe 84) = Y1h2 at *
    refine hK.out _ _ ⟨P.out, TB.out⟩ (fun _ => ?_)
    clear hK KK
    try simp only [Act.put, tS1, tS2, tS3]
    clear hz84
    refine tkO 10 (fun KK hK => ?_)
    rw [if_pos (by rfl)]
    refine wp_blk_store 84 (.tmp 5) (.tmp 14) rfl oc rfl rfl X.out OS.out OI.out OA.out ?_
    intro Y1h3 hA hF hB
    replace K := lh (K.out.trans (hB _ (by omega)))
    replace HT := lh (HT.out.belowB (hB (w.heap.size) (by omega)) (by omega))
    replace TB := lh (show Blk _ _ _ _ from (hF _ (by omega)).trans TB.out)
    replace P := lh (show Blk _ _ _ _ from (hF _ (by omega)).trans P.out)
    replace KB := lh (KB.out.trans (hB _ (by omega)))
    replace X := lh hA
    clear hA hF hB
    refine hK.out _ _ ⟨P.out, TB.out⟩ (fun _ => ?_)
    clear hK KK
    try simp only [Act.put]
    refine tkA 11 (?_) ?_ ⟨P.out, TB.out⟩ ?_
    rotate_left
    · (intro w1 hS; go_simp; try with_reducible rfl)
    simp only [Act.put, tS1, tS2, tS3]
    refine wpAnyH_done (by kernel_rfl) ?_ _
    clear KB
    cases qi with
    | false =>
      go_upto_region 2 with fail
      refine wp_region_held (S := (fun w' : World => Blk w' (w.heap.size) 51 pc ∧ Blk w' (tn) 80 tc)) (by kernel_rfl) ?_
      change wpAnyH _ _ _ _ _ _ _ _ Y1h3.drew
      have hy : Below Y1h3.heap.size Y1h3 Y1h3.drew := (Below.refl _ _).drew
      replace K := lh (K.out.trans (hy.mono K.out.size))
      replace HT := lh (HT.out.below hy)
      replace TB := lh (TB.out.below hy TB.out.lt)
      replace P := lh (P.out.below hy P.out.lt)
      replace X := lh (X.out.below hy X.out.lt)
      clear hy
      generalize Y1h3.drew = Y2h0 at *
      refine tkA 0 (?_) ?_ ⟨P.out, TB.out⟩ ?_
      rotate_left
      · (intro w1 hS; go_simp; try with_reducible rfl)
      simp only [Act.put, tS1, tS2, tS3]
      refine tkA 1 (?_) ?_ ⟨P.out, TB.out⟩ ?_
      rotate_left
      · (intro w1 hS; go_simp; try with_reducible rfl)
      simp only [Act.put, tS1, tS2, tS3]
      refine tkA 2 (?_) ?_ ⟨P.out, TB.out⟩ ?_
      rotate_left
      · (intro w1 hS; go_simp; try with_reducible rfl)
      simp only [Act.put, tS1, tS2, tS3]
      refine tkA 3 (?_) ?_ ⟨P.out, TB.out⟩ ?_
      rotate_left
      · (intro w1 hS; obtain ⟨hS0, hS1⟩ := hS; have q := (hS1.cell 1).trans T1.out; go_simp; try with_reducible rfl)
      simp only [Act.put, tS1, tS2, tS3]
      refine tkA 4 (.agg pc) ?_ ⟨P.out, TB.out⟩ ?_
      · (intro w1 hS; obtain ⟨hS0, hS1⟩ := hS; exact exec_load 51 (.tmp 3) rfl _ rfl _ (run_blk_load (P := Try.prog) 51 (w.heap.size) _ hS0 Try.underlying51 rfl PI.out))
      simp only [Act.put, tS1, tS2, tS3]
      refine tkO 5 (fun KK hK => ?_)
      go_simp
      refine (CI.out Y2h0 HT.out.G).mono ?_
      rintro e Y2h1 ⟨rfl, hy⟩
      replace K := lh (K.out.trans (hy.mono K.out.size))
      replace HT := lh (HT.out.below hy)
      replace TB := lh (TB.out.below hy TB.out.lt)
      replace P := lh (P.out.below hy P.out.lt)
      replace X := lh (X.out.below hy X.out.lt)
      clear hy
      refine hK.out _ _ ⟨P.out, TB.out⟩ (fun _ => ?_)
      clear hK KK
      try simp only [Act.put, tS1, tS2, tS3]
      refine tkA 6 (?_) ?_ ⟨P.out, TB.out⟩ ?_
      rotate_left
      · (intro w1 hS; go_simp; try with_reducible rfl)
      simp only [Act.put, tS1, tS2, tS3]
      refine tkN 7 ⟨P.out, TB.out⟩ ?_
      simp only [Act.put, tS1, tS2, tS3]
      refine tkN 8 ⟨P.out, TB.out⟩ ?_
      simp only [Act.put, tS1, tS2, tS3]
      refine tkA 9 (?_) ?_ ⟨P.out, TB.out⟩ ?_
      rotate_left
      · (intro w1 hS; go_simp; try with_reducible rfl)
      simp only [Act.put, tS1, tS2, tS3]
      refine tkA 10 (?_) ?_ ⟨P.out, TB.out⟩ ?_
      rotate_left
      · (intro w1 hS; go_simp; try with_reducible rfl)
      simp only [Act.put, tS1, tS2, tS3]
      refine wpAnyH_done (by kernel_rfl) ?_ _
      go_wp2
      go_ret
      exact ⟨rfl, K.out⟩
    | true =>
      go_upto_region 2 with fail
      refine wp_region_held (S := (fun w' : World => Blk w' (w.heap.size) 51 pc ∧ Blk w' (tn) 80 tc)) (by kernel_rfl) ?_
      change wpAnyH _ _ _ _ _ _ _ _ Y1h3.drew
      have hy : Below Y1h3.heap.size Y1h3 Y1h3.drew := (Below.refl _ _).drew
      replace K := lh (K.out.trans (hy.mono K.out.size))
      replace HT := lh (HT.out.below hy)
      replace TB := lh (TB.out.below hy TB.out.lt)
      replace P := lh (P.out.below hy P.out.lt)
      replace X := lh (X.out.below hy X.out.lt)
      clear hy
      generalize Y1h3.drew = Y2h0 at *
      refine tkA 0 (?_) ?_ ⟨P.out, TB.out⟩ ?_
      rotate_left
      · (intro w1 hS; go_simp; try with_reducible rfl)
      simp only [Act.put, tS1, tS2, tS3]
      refine tkA 1 (?_) ?_ ⟨P.out, TB.out⟩ ?_
      rotate_left
      · (intro w1 hS; go_simp; try with_reducible rfl)
      simp only [Act.put, tS1, tS2, tS3]
      refine tkA 2 (?_) ?_ ⟨P.out, TB.out⟩ ?_
      rotate_left
      · (intro w1 hS; go_simp; try with_reducible rfl)
      simp only [Act.put, tS1, tS2, tS3]
      refine tkA 3 (?_) ?_ ⟨P.out, TB.out⟩ ?_
      rotate_left
      · (intro w1 hS; obtain ⟨hS0, hS1⟩ := hS; have q := (hS1.cell 1).trans T1.out; go_simp; try with_reducible rfl)
      simp only [Act.put, tS1, tS2, tS3]
      refine tkA 4 (.agg pc) ?_ ⟨P.out, TB.out⟩ ?_
      · (intro w1 hS; obtain ⟨hS0, hS1⟩ := hS; exact exec_load 51 (.tmp 3) rfl _ rfl _ (run_blk_load (P := Try.prog) 51 (w.heap.size) _ hS0 Try.underlying51 rfl PI.out))
      simp only [Act.put, tS1, tS2, tS3]
      refine tkO 5 (fun KK hK => ?_)
      go_simp
      refine (CI.out Y2h0 HT.out.G).mono ?_
      rintro e Y2h1 ⟨rfl, hy⟩
      replace K := lh (K.out.trans (hy.mono K.out.size))
      replace HT := lh (HT.out.below hy)
      replace TB := lh (TB.out.below hy TB.out.lt)
      replace P := lh (P.out.below hy P.out.lt)
      replace X := lh (X.out.below hy X.out.lt)
      clear hy
      refine hK.out _ _ ⟨P.out, TB.out⟩ (fun _ => ?_)
      clear hK KK
      try simp only [Act.put, tS1, tS2, tS3]
      refine tkA 6 (?_) ?_ ⟨P.out, TB.out⟩ ?_
      rotate_left
      · (intro w1 hS; go_simp; try with_reducible rfl)
      simp only [Act.put, tS1, tS2, tS3]
      refine tkA 7 (?_) ?_ ⟨P.out, TB.out⟩ ?_
      rotate_left
      · (intro w1 hS; go_simp; try with_reducible rfl)
      simp only [Act.put, tS1, tS2, tS3]
      refine tkA 8 (?_) ?_ ⟨P.out, TB.out⟩ ?_
      rotate_left
      · (intro w1 hS; go_simp; try with_reducible rfl)
      simp only [Act.put, tS1, tS2, tS3]
      refine tkA 9 (?_) ?_ ⟨P.out, TB.out⟩ ?_
      rotate_left
      · (intro w1 hS; go_simp; try with_reducible rfl)
      simp only [Act.put, tS1, tS2, tS3]
      refine tkA 10 (?_) ?_ ⟨P.out, TB.out⟩ ?_
      rotate_left
      · (intro w1 hS; go_simp; try with_reducible rfl)
      simp only [Act.put, tS1, tS2, tS3]
      refine wpAnyH_done (by kernel_rfl) ?_ _
      go_wp2
      go_ret
      exact ⟨rfl, K.out⟩
  · skip
    have hz84 := zero84
    go_simp
    have pb := Blk.new Y1h0 84 zSe
    have hy := (Below.refl Y1h0.heap.size Y1h0).alloc (Nat.le_refl _) (.cells zSe 84)
    obtain ⟨gX, hgX⟩ : ∃ g, g = Y1h0.heap.size := ⟨_, rfl⟩
    have hg0X : V1.heap.size ≤ gX := by rw [hgX]; exact KB.out.size
    replace K := lh (K.out.trans (hy.mono K.out.size))
    replace HT := lh (HT.out.below hy)
    replace TB := lh (TB.out.below hy TB.out.lt)
    replace P := lh (P.out.below hy P.out.lt)
    replace KB := lh (KB.out.trans (hy.mono KB.out.size))
    rw [← hgX] at pb ⊢
    have X := lh pb
    clear pb hy hgX
    generalize Y1h0.alloc (.cells zSe 84) = Y1h1 at *
    refine hK.out _ _ ⟨P.out, TB.out⟩ (fun _ => ?_)
    clear hK KK
    try simp only [Act.put, tS1, tS2, tS3]
    clear hz84
    refine tkO 5 (fun KK hK => ?_)
    go_simp
    refine (CG.out Y1h1 HT.out.G).mono ?_
    rintro e Y1h2 ⟨rfl, hy⟩
    replace K := lh (K.out.trans (hy.mono K.out.size))
    replace HT := lh (HT.out.below hy)
    replace TB := lh (TB.out.below hy TB.out.lt)
    replace P := lh (P.out.below hy P.out.lt)
    replace KB := lh (KB.out.trans (hy.mono KB.out.size))
    replace X := lh (X.out.below hy X.out.lt)
    clear hy
    refine hK.out _ _ ⟨P.out, TB.out⟩ (fun _ => ?_)
    clear hK KK
    try simp only [Act.put, tS1, tS2, tS3]
    refine tkA 6 (?_) ?_ ⟨P.out, TB.out⟩ ?_
    rotate_left
    · (intro w1 hS; go_simp; try with_reducible rfl)
    simp only [Act.put, tS1, tS2, tS3]
    refine tkA 7 (?_) ?_ ⟨P.out, TB.out⟩ ?_
    rotate_left
    · (intro w1 hS; go_simp; try with_reducible rfl)
    simp only [Act.put, tS1, tS2, tS3]
    refine tkA 8 (?_) ?_ ⟨P.out, TB.out⟩ ?_
    rotate_left
    · (intro w1 hS; go_simp; try with_reducible rfl)
    simp only [Act.put, tS1, tS2, tS3]
    refine tkO 10 (fun KK hK => ?_)
    rw [if_pos (by rfl)]
    refine wp_blk_store 84 (.tmp 5) (.tmp 14) rfl oc rfl rfl X.out OS.out OI.out OA.out ?_
    intro Y1h3 hA hF hB
    replace K := lh (K.out.trans (hB _ (by omega)))
    replace HT := lh (HT.out.belowB (hB (w.heap.size) (by omega)) (by omega))
    replace TB := lh (show Blk _ _ _ _ from (hF _ (by omega)).trans TB.out)
    replace P := lh (show Blk _ _ _ _ from (hF _ (by omega)).trans P.out)
    replace KB := lh (KB.out.trans (hB _ (by omega)))
    replace X := lh hA
    clear hA hF hB
    refine hK.out _ _ ⟨P.out, TB.out⟩ (fun _ => ?_)
    clear hK KK
    try simp only [Act.put]
    refine tkA 11 (?_) ?_ ⟨P.out, TB.out⟩ ?_
    rotate_left
    · (intro w1 hS; go_simp; try with_reducible rfl)
    simp only [Act.put, tS1, tS2, tS3]
    refine wpAnyH_done (by kernel_rfl) ?_ _
    clear KB
    cases qi with
    | false =>
      go_upto_region 2 with fail
      refine wp_region_held (S := (fun w' : World => Blk w' (w.heap.size) 51 pc ∧ Blk w' (tn) 80 tc)) (by kernel_rfl) ?_
      change wpAnyH _ _ _ _ _ _ _ _ Y1h3.drew
      have hy : Below Y1h3.heap.size Y1h3 Y1h3.drew := (Below.refl _ _).drew
      replace K := lh (K.out.trans (hy.mono K.out.size))
      replace HT := lh (HT.out.below hy)
      replace TB := lh (TB.out.below hy TB.out.lt)
      replace P := lh (P.out.below hy P.out.lt)
      replace X := lh (X.out.below hy X.out.lt)
      clear hy
      generalize Y1h3.drew = Y2h0 at *
      refine tkA 0 (?_) ?_ ⟨P.out, TB.out⟩ ?_
      rotate_left
      · (intro w1 hS; go_simp; try with_reducible rfl)
      simp only [Act.put, tS1, tS2, tS3]
      refine tkA 1 (?_) ?_ ⟨P.out, TB.out⟩ ?_
      rotate_left
      · (intro w1 hS; go_simp; try with_reducible rfl)
      simp only [Act.put, tS1, tS2, tS3]
      refine tkA 2 (?_) ?_ ⟨P.out, TB.out⟩ ?_
      rotate_left
      · (intro w1 hS; go_simp; try with_reducible rfl)
      simp only [Act.put, tS1, tS2, tS3]
      refine tkA 3 (?_) ?_ ⟨P.out, TB.out⟩ ?_
      rotate_left
      · (intro w1 hS; obtain ⟨hS0, hS1⟩ := hS; have q := (hS1.cell 1).trans T1.out; go_simp; try with_reducible rfl)
      simp only [Act.put, tS1, tS2, tS3]
      refine tkA 4 (.agg pc) ?_ ⟨P.out, TB.out⟩ ?_
      · (intro w1 hS; obtain ⟨hS0, hS1⟩ := hS; exact exec_load 51 (.tmp 3) rfl _ rfl _ (run_blk_load (P := Try.prog) 51 (w.heap.size) _ hS0 Try.underlying51 rfl PI.out))
      simp only [Act.put, tS1, tS2, tS3]
      refine tkO 5 (fun KK hK => ?_)
      go_simp
      refine (CI.out Y2h0 HT.out.G).mono ?_
      rintro e Y2h1 ⟨rfl, hy⟩
      replace K := lh (K.out.trans (hy.mono K.out.size))
      replace HT := lh (HT.out.below hy)
      replace TB := lh (TB.out.below hy TB.out.lt)
      replace P := lh (P.out.below hy P.out.lt)
      replace X := lh (X.out.below hy X.out.lt)
      clear hy
      refine hK.out _ _ ⟨P.out, TB.out⟩ (fun _ => ?_)
      clear hK KK
      try simp only [Act.put, tS1, tS2, tS3]
      refine tkA 6 (?_) ?_ ⟨P.out, TB.out⟩ ?_
      rotate_left
      · (intro w1 hS; go_simp; try with_reducible rfl)
      simp only [Act.put, tS1, tS2, tS3]
      refine tkN 7 ⟨P.out, TB.out⟩ ?_
      simp only [Act.put, tS1, tS2, tS3]
      refine tkN 8 ⟨P.out, TB.out⟩ ?_
      simp only [Act.put, tS1, tS2, tS3]
      refine tkA 9 (?_) ?_ ⟨P.out, TB.out⟩ ?_
      rotate_left
      · (intro w1 hS; go_simp; try with_reducible rfl)
      simp only [Act.put, tS1, tS2, tS3]
      refine tkA 10 (?_) ?_ ⟨P.out, TB.out⟩ ?_
      rotate_left
      · (intro w1 hS; go_simp; try with_reducible rfl)
      simp only [Act.put, tS1, tS2, tS3]
      refine wpAnyH_done (by kernel_rfl) ?_ _
      go_wp2
      go_ret
      exact ⟨rfl, K.out⟩
    | true =>
      go_upto_region 2 with fail
      refine wp_region_held (S := (fun w' : World => Blk w' (w.heap.size) 51 pc ∧ Blk w' (tn) 80 tc)) (by kernel_rfl) ?_
      change wpAnyH _ _ _ _ _ _ _ _ Y1h3.drew
      have hy : Below Y1h3.heap.size Y1h3 Y1h3.drew := (Below.refl _ _).drew
      replace K := lh (K.out.trans (hy.mono K.out.size))
      replace HT := lh (HT.out.below hy)
      replace TB := lh (TB.out.below hy TB.out.lt)
      replace P := lh (P.out.below hy P.out.lt)
      replace X := lh (X.out.below hy X.out.lt)
      clear hy
      generalize Y1h3.drew = Y2h0 at *
      refine tkA 0 (?_) ?_ ⟨P.out, TB.out⟩ ?_
      rotate_left
      · (intro w1 hS; go_simp; try with_reducible rfl)
      simp only [Act.put, tS1, tS2, tS3]
      refine tkA 1 (?_) ?_ ⟨P.out, TB.out⟩ ?_
      rotate_left
      · (intro w1 hS; go_simp; try with_reducible rfl)
      simp only [Act.put, tS1, tS2, tS3]
      refine tkA 2 (?_) ?_ ⟨P.out, TB.out⟩ ?_
      rotate_left
      · (intro w1 hS; go_simp; try with_reducible rfl)
      simp only [Act.put, tS1, tS2, tS3]
      refine tkA 3 (?_) ?_ ⟨P.out, TB.out⟩ ?_
      rotate_left
      · (intro w1 hS; obtain ⟨hS0, hS1⟩ := hS; have q := (hS1.cell 1).trans T1.out; go_simp; try with_reducible rfl)
      simp only [Act.put, tS1, tS2, tS3]
      refine tkA 4 (.agg pc) ?_ ⟨P.out, TB.out⟩ ?_
      · (intro w1 hS; obtain ⟨hS0, hS1⟩ := hS; exact exec_load 51 (.tmp 3) rfl _ rfl _ (run_blk_load (P := Try.prog) 51 (w.heap.size) _ hS0 Try.underlying51 rfl PI.out))
      simp only [Act.put, tS1, tS2, tS3]
      refine tkO 5 (fun KK hK => ?_)
      go_simp
      refine (CI.out Y2h0 HT.out.G).mono ?_
      rintro e Y2h1 ⟨rfl, hy⟩
      replace K := lh (K.out.trans (hy.mono K.out.size))
      replace HT := lh (HT.out.below hy)
      replace TB := lh (TB.out.below hy TB.out.lt)
      replace P := lh (P.out.below hy P.out.lt)
      replace X := lh (X.out.below hy X.out.lt)
      clear hy
      refine hK.out _ _ ⟨P.out, TB.out⟩ (fun _ => ?_)
      clear hK KK
      try simp only [Act.put, tS1, tS2, tS3]
      refine tkA 6 (?_) ?_ ⟨P.out, TB.out⟩ ?_
      rotate_left
      · (intro w1 hS; go_simp; try with_reducible rfl)
      simp only [Act.put, tS1, tS2, tS3]
      refine tkA 7 (?_) ?_ ⟨P.out, TB.out⟩ ?_
      rotate_left
      · (intro w1 hS; go_simp; try with_reducible rfl)
      simp only [Act.put, tS1, tS2, tS3]
      refine tkA 8 (?_) ?_ ⟨P.out, TB.out⟩ ?_
      rotate_left
      · (intro w1 hS; go_simp; try with_reducible rfl)
      simp only [Act.put, tS1, tS2, tS3]
      refine tkA 9 (?_) ?_ ⟨P.out, TB.out⟩ ?_
      rotate_left
      · (intro w1 hS; go_simp; try with_reducible rfl)
      simp only [Act.put, tS1, tS2, tS3]
      refine tkA 10 (?_) ?_ ⟨P.out, TB.out⟩ ?_
      rotate_left
      · (intro w1 hS; go_simp; try with_reducible rfl)
      simp only [Act.put, tS1, tS2, tS3]
      refine wpAnyH_done (by kernel_rfl) ?_ _
      go_wp2
      go_ret
      exact ⟨rfl, K.out⟩
set_option maxRecDepth 100000 in
set_option maxHeartbeats 4000000 in
theorem look_any (tn fn B : Nat) (cf : Cf) (c : Nat → Option Se) (hc : cf.Fit) (hok : okC cf = true) (k : Fl) (hk : k.Fit) (v : Int) (w : World) (h : TS tn fn B cf c w) :
    Calls Try.prog 16 #[.pointer (some ⟨tn, 0, none⟩), .agg k.cs, .int .i64 v] w fun e w' => e = .returned (.tuple #[.agg (rP (fst1 (lkN cf.st.toNat cf.sz.toNat c) (fun s => hitsB s (dgN cf k) v) (plL cf k))), .agg (rC (fst1 (lkN cf.st.toNat cf.sz.toNat c) (fun s => hitsB s (dgN cf k) v) (plL cf k))), .bool (fst1 (lkN cf.st.toNat cf.sz.toNat c) (fun s => hitsB s (dgN cf k) v) (plL cf k)).isSome]) ∧ Below w.heap.size w w' := by
  have CD := lh (fun W h => digest_all cf hc hok k hk fn W h)
  have CF := lh (fun pd pv W h h1 h2 => firstL_any tn fn B cf c hc hok k hk (dgN cf k) v pd pv W h h1 h2)
  have K := lh (Below.refl w.heap.size w)
  have HT := lh h
  have TB := lh h.T
  have htw := h.lt
  have hft : fn < tn := by have := h.hF; have := h.hT; omega
  obtain ⟨T0', T1', T2'⟩ := tbC_get fn B cf.ev
  have T0 := lh T0'
  clear T0' T1' T2'
  obtain ⟨tc, htc⟩ : ∃ x, x = tbC fn B cf.ev := ⟨_, rfl⟩
  rw [← htc] at TB T0
  clear htc
  have hqt := eqt_some ⟨tn, 0, none⟩
  obtain ⟨o, ho⟩ : ∃ o, o = fst1 (lkN cf.st.toNat cf.sz.toNat c) (fun s => hitsB s (dgN cf k) v) (plL cf k) := ⟨_, rfl⟩
  rw [← ho] at CF ⊢
  clear ho
  have RS := lh (rP_size o)
  have RI : Hid ((Try.prog.info? 51).map (·.size) = some (rP o).size) := by show _ = _; rw [rP_size]; exact i51c
  have RA := lh (rP_all o)
  have CS := lh (rC_size o)
  have CI : Hid ((Try.prog.info? 46).map (·.size) = some (rC o).size) := by show _ = _; rw [rC_size]; exact i46c
  have CA := lh (rC_all o)
  generalize rP o = rp at *
  generalize rC o = rc at *
  generalize o.isSome = ob at *
  have FB := lh h.F
  have IK := lh (fl_ik k hk)
  generalize dgN cf k = dg at *
  generalize k.cs = kc at *
  generalize famC cf = fc at *
  clear h hk hc hok
  have ZP : Hid ((Try.prog.info? 51).map (·.size) = some (#[Value.int .i64 0, .int .i64 0] : Array Value).size) := i51c
  have ZC : Hid ((Try.prog.info? 46).map (·.size) = some zCe.size) := i46c
  have hz46 := zero46
  go_enter Try.func16, Try.ntmps16
  have hal := (Below.refl w.heap.size w).alloc (Nat.le_refl _) (.cells kc 42)
  replace K := lh (K.out.trans (hal.mono K.out.size))
  replace HT := lh (HT.out.below hal)
  replace TB := lh (TB.out.below hal TB.out.lt)
  replace FB := lh (FB.out.below hal FB.out.lt)
  have BK := lh (Blk.new w 42 kc)
  clear hal
  have hal := (Below.refl (w.alloc (.cells kc 42)).heap.size (w.alloc (.cells kc 42))).alloc (Nat.le_refl _) (.cells #[.int .i64 v] 3)
  replace K := lh (K.out.trans (hal.mono K.out.size))
  replace HT := lh (HT.out.below hal)
  replace TB := lh (TB.out.below hal TB.out.lt)
  replace FB := lh (FB.out.below hal FB.out.lt)
  replace BK := lh (BK.out.below hal BK.out.lt)
  have BVq := Blk.new (w.alloc (.cells kc 42)) 3 #[.int .i64 v]
  simp only [World.size_alloc] at BVq
  have BV := lh BVq
  clear BVq
  clear hal
  have hal := (Below.refl ((w.alloc (.cells kc 42)).alloc (.cells #[.int .i64 v] 3)).heap.size ((w.alloc (.cells kc 42)).alloc (.cells #[.int .i64 v] 3))).alloc (Nat.le_refl _) (.cells #[.int .i64 0, .int .i64 0] 51)
  replace K := lh (K.out.trans (hal.mono K.out.size))
  replace HT := lh (HT.out.below hal)
  replace TB := lh (TB.out.below hal TB.out.lt)
  replace FB := lh (FB.out.below hal FB.out.lt)
  replace BK := lh (BK.out.below hal BK.out.lt)
  replace BV := lh (BV.out.below hal BV.out.lt)
  have RPq := Blk.new ((w.alloc (.cells kc 42)).alloc (.cells #[.int .i64 v] 3)) 51 #[.int .i64 0, .int .i64 0]
  simp only [World.size_alloc] at RPq
  have RP := lh RPq
  clear RPq
  clear hal
  have hal := (Below.refl (((w.alloc (.cells kc 42)).alloc (.cells #[.int .i64 v] 3)).alloc (.cells #[.int .i64 0, .int .i64 0] 51)).heap.size (((w.alloc (.cells kc 42)).alloc (.cells #[.int .i64 v] 3)).alloc (.cells #[.int .i64 0, .int .i64 0] 51))).alloc (Nat.le_refl _) (.cells zCe 46)
  replace K := lh (K.out.trans (hal.mono K.out.size))
  replace HT := lh (HT.out.below hal)
  replace TB := lh (TB.out.below hal TB.out.lt)
  replace FB := lh (FB.out.below hal FB.out.lt)
  replace BK := lh (BK.out.below hal BK.out.lt)
  replace BV := lh (BV.out.below hal BV.out.lt)
  replace RP := lh (RP.out.below hal RP.out.lt)
  have RCq := Blk.new (((w.alloc (.cells kc 42)).alloc (.cells #[.int .i64 v] 3)).alloc (.cells #[.int .i64 0, .int .i64 0] 51)) 46 zCe
  simp only [World.size_alloc] at RCq
  have RC := lh RCq
  clear RCq
  clear hal
  go_upto_region 3 with fail
  have hzV1 : Hid (((((w.alloc (.cells kc 42)).alloc (.cells #[.int .i64 v] 3)).alloc (.cells #[.int .i64 0, .int .i64 0] 51)).alloc (.cells zCe 46)).heap.size = w.heap.size + 1 + 1 + 1 + 1) := by show _ = _; simp only [World.size_alloc]
  generalize ((((w.alloc (.cells kc 42)).alloc (.cells #[.int .i64 v] 3)).alloc (.cells #[.int .i64 0, .int .i64 0] 51)).alloc (.cells zCe 46)) = V1 at *
  have hRl := RC.out.lt
  clear hz46
  have KB := lh (Below.refl V1.heap.size V1)
  refine wp_region_held (S := (fun w' : World => Blk w' (w.heap.size) 42 kc ∧ Blk w' (tn) 80 tc)) (by kernel_rfl) ?_
  change wpAnyH _ _ _ _ _ _ _ _ V1.drew
  have hy : Below V1.heap.size V1 V1.drew := (Below.refl _ _).drew
  replace K := lh (K.out.trans (hy.mono K.out.size))
  replace HT := lh (HT.out.below hy)
  replace TB := lh (TB.out.below hy TB.out.lt)
  replace FB := lh (FB.out.below hy FB.out.lt)
  replace BK := lh (BK.out.below hy BK.out.lt)
  replace BV := lh (BV.out.below hy BV.out.lt)
  replace RP := lh (RP.out.below hy RP.out.lt)
  replace RC := lh (RC.out.below hy RC.out.lt)
  replace KB := lh (KB.out.trans (hy.mono KB.out.size))
  clear hy
  generalize V1.drew = Y3h0 at *
  refine tkA 0 (?_) ?_ ⟨BK.out, TB.out⟩ ?_
  rotate_left
  · (intro w1 hS; go_simp; try with_reducible rfl)
  simp only [Act.put, tS1, tS2, tS3]
  refine tkA 1 (?_) ?_ ⟨BK.out, TB.out⟩ ?_
  rotate_left
  · (intro w1 hS; go_simp; try with_reducible rfl)
  simp only [Act.put, tS1, tS2, tS3]
  refine tkA 2 (?_) ?_ ⟨BK.out, TB.out⟩ ?_
  rotate_left
  · (intro w1 hS; go_simp; try with_reducible rfl)
  simp only [Act.put, tS1, tS2, tS3]
  refine tkA 3 (?_) ?_ ⟨BK.out, TB.out⟩ ?_
  rotate_left
  · (intro w1 hS; obtain ⟨hS0, hS1⟩ := hS; have q := (hS1.cell 0).trans T0.out; go_simp; try with_reducible rfl)
  simp only [Act.put, tS1, tS2, tS3]
  refine tkA 4 (.agg kc) ?_ ⟨BK.out, TB.out⟩ ?_
  · (intro w1 hS; obtain ⟨hS0, hS1⟩ := hS; exact exec_load 42 (.tmp 4) rfl _ rfl _ (run_blk_load (P := Try.prog) 42 (w.heap.size) _ hS0 Try.underlying42 rfl IK.out))
  simp only [Act.put, tS1, tS2, tS3]
  refine tkB 5 6 (fun KK hK => ?_) (fun KK hK => ?_)
  · skip
    go_simp
    refine (CD.out Y3h0 FB.out).mono ?_
    rintro e Y3h1 ⟨rfl, hy⟩
    replace K := lh (K.out.trans (hy.mono K.out.size))
    replace HT := lh (HT.out.below hy)
    replace TB := lh (TB.out.below hy TB.out.lt)
    replace FB := lh (FB.out.below hy FB.out.lt)
    replace BK := lh (BK.out.below hy BK.out.lt)
    replace BV := lh (BV.out.below hy BV.out.lt)
    replace RP := lh (RP.out.below hy RP.out.lt)
    replace RC := lh (RC.out.below hy RC.out.lt)
    replace KB := lh (KB.out.trans (hy.mono KB.out.size))
    clear hy
    refine hK.out _ _ ⟨BK.out, TB.out⟩ (fun _ => ?_)
    clear hK KK
    try simp only [Act.put, tS1, tS2, tS3]
    refine tkO 6 (fun KK hK => ?_)
    go_simp
    have pb := Blk.new Y3h1 40 #[.int .u16 0]
    have hy := (Below.refl Y3h1.heap.size Y3h1).alloc (Nat.le_refl _) (.cells #[.int .u16 0] 40)
    obtain ⟨gD, hgD⟩ : ∃ g, g = Y3h1.heap.size := ⟨_, rfl⟩
    have hg0D : V1.heap.size ≤ gD := by rw [hgD]; exact KB.out.size
    replace K := lh (K.out.trans (hy.mono K.out.size))
    replace HT := lh (HT.out.below hy)
    replace TB := lh (TB.out.below hy TB.out.lt)
    replace FB := lh (FB.out.below hy FB.out.lt)
    replace BK := lh (BK.out.below hy BK.out.lt)
    replace BV := lh (BV.out.below hy BV.out.lt)
    replace RP := lh (RP.out.below hy RP.out.lt)
    replace RC := lh (RC.out.below hy RC.out.lt)
    replace KB := lh (KB.out.trans (hy.mono KB.out.size))
    rw [← hgD] at pb ⊢
    have D := lh pb
    clear pb hy hgD
    generalize Y3h1.alloc (.cells #[.int .u16 0] 40) = Y3h2 at *
    refine hK.out _ _ ⟨BK.out, TB.out⟩ (fun _ => ?_)
    clear hK KK
    try simp only [Act.put, tS1, tS2, tS3]
    refine tkO 7 (fun KK hK => ?_)
    have k1 : Y3h2.cell? ⟨gD, 0, none⟩ = some (.int .u16 0) := D.out.cell 0
    have k2 := D.out.frozen 0
    go_simp
    replace K := lh (K.out.setCell (p := ⟨gD, 0, none⟩) (by show _ ≤ gD; omega) (.int .u16 (dg : Int)))
    replace HT := lh (HT.out.belowB (((Below.refl (w.heap.size) Y3h2).setCell (p := ⟨gD, 0, none⟩) (by show _ ≤ gD; omega) (.int .u16 (dg : Int)))) (by omega))
    replace TB := lh (TB.out.far (p := ⟨gD, 0, none⟩) (by show _ ≠ gD; omega) (.int .u16 (dg : Int)))
    replace FB := lh (FB.out.far (p := ⟨gD, 0, none⟩) (by show _ ≠ gD; omega) (.int .u16 (dg : Int)))
    replace BK := lh (BK.out.far (p := ⟨gD, 0, none⟩) (by show _ ≠ gD; omega) (.int .u16 (dg : Int)))
    replace BV := lh (BV.out.far (p := ⟨gD, 0, none⟩) (by show _ ≠ gD; omega) (.int .u16 (dg : Int)))
    replace RP := lh (RP.out.far (p := ⟨gD, 0, none⟩) (by show _ ≠ gD; omega) (.int .u16 (dg : Int)))
    replace RC := lh (RC.out.far (p := ⟨gD, 0, none⟩) (by show _ ≠ gD; omega) (.int .u16 (dg : Int)))
    replace KB := lh (KB.out.setCell (p := ⟨gD, 0, none⟩) (by show _ ≤ gD; omega) (.int .u16 (dg : Int)))
    replace D := lh (show Blk _ _ 40 #[.int .u16 (dg : Int)] from D.out.set_ 0 (.int .u16 (dg : Int)))
    clear k1 k2
    generalize Y3h2.setCell ⟨gD, 0, none⟩ (.int .u16 (dg : Int)) = Y3h3 at *
    refine hK.out _ _ ⟨BK.out, TB.out⟩ (fun _ => ?_)
    clear hK KK
    try simp only [Act.put]
    refine wpAnyH_done (by kernel_rfl) ?_ _
    clear KB
    have GD := D
    have L5 : (loadVar 42 ⟨w.heap.size, 0, none⟩).run Try.prog Y3h3 = .ok (.agg kc) Y3h3 := run_blk_load (P := Try.prog) 42 (w.heap.size) _ BK.out Try.underlying42 rfl IK.out
    replace L5 := lh L5
    go_wp2_with (((with_reducible refine wpList_load_want (op := ⟨some 21, .load 42 (.tmp 4), _, _, _, _⟩) ?wg5 42 (.tmp 4) ?wo5 ⟨w.heap.size, 0, none⟩ ?wx5 (.agg kc) L5.out ?_); (case wg5 => rfl); (case wo5 => rfl); (case wx5 => rfl)))
    clear L5
    refine (CF.out gD _ Y3h3 HT.out GD.out BV.out).mono ?_
    rintro e V2 ⟨rfl, hy⟩
    replace K := lh (K.out.trans (hy.mono K.out.size))
    replace HT := lh (HT.out.below hy)
    replace TB := lh (TB.out.below hy TB.out.lt)
    replace FB := lh (FB.out.below hy FB.out.lt)
    replace BK := lh (BK.out.below hy BK.out.lt)
    replace BV := lh (BV.out.below hy BV.out.lt)
    replace RP := lh (RP.out.below hy RP.out.lt)
    replace RC := lh (RC.out.below hy RC.out.lt)
    replace GD := lh (GD.out.below hy GD.out.lt)
    clear hy
    go_wp2_with (((with_reducible refine wpList_blk_store (op := ⟨none, .store 51 (.tmp 6) (.tmp 24), _, _, _, _⟩) ?sg6 51 (.tmp 6) (.tmp 24) ?so6 (w.heap.size + 2) rp ?sx6 ?sy6 RP.out RS.out RI.out RA.out ?_); (case sg6 => rfl); (case so6 => rfl); (case sx6 => rfl); (case sy6 => rfl)))
    intro V3 hA hF hB
    replace K := lh (K.out.trans (hB _ (by omega)))
    replace HT := lh (HT.out.belowB (hB (w.heap.size) (by omega)) (by omega))
    replace TB := lh (show Blk _ _ _ _ from (hF _ (by omega)).trans TB.out)
    replace FB := lh (show Blk _ _ _ _ from (hF _ (by omega)).trans FB.out)
    replace BK := lh (show Blk _ _ _ _ from (hF _ (by omega)).trans BK.out)
    replace BV := lh (show Blk _ _ _ _ from (hF _ (by omega)).trans BV.out)
    replace RC := lh (show Blk _ _ _ _ from (hF _ (by omega)).trans RC.out)
    replace GD := lh (show Blk _ _ _ _ from (hF _ (by omega)).trans GD.out)
    replace RP := lh hA
    clear hA hF hB
    go_wp2_with (((with_reducible refine wpList_blk_store (op := ⟨none, .store 46 (.tmp 7) (.tmp 25), _, _, _, _⟩) ?sg7 46 (.tmp 7) (.tmp 25) ?so7 (w.heap.size + 3) rc ?sx7 ?sy7 RC.out CS.out CI.out CA.out ?_); (case sg7 => rfl); (case so7 => rfl); (case sx7 => rfl); (case sy7 => rfl)))
    intro V4 hA hF hB
    replace K := lh (K.out.trans (hB _ (by omega)))
    replace HT := lh (HT.out.belowB (hB (w.heap.size) (by omega)) (by omega))
    replace TB := lh (show Blk _ _ _ _ from (hF _ (by omega)).trans TB.out)
    replace FB := lh (show Blk _ _ _ _ from (hF _ (by omega)).trans FB.out)
    replace BK := lh (show Blk _ _ _ _ from (hF _ (by omega)).trans BK.out)
    replace BV := lh (show Blk _ _ _ _ from (hF _ (by omega)).trans BV.out)
    replace RP := lh (show Blk _ _ _ _ from (hF _ (by omega)).trans RP.out)
    replace GD := lh (show Blk _ _ _ _ from (hF _ (by omega)).trans GD.out)
    replace RC := lh hA
    clear hA hF hB
    go_wp2
    exact bodyPost_ret (results_cell2_tmp 6 7 8 51 46 _ _ _ _ rfl rfl rfl (run_blk_load (P := Try.prog) 51 _ _ RP.out Try.underlying51 rfl RI.out) (run_blk_load (P := Try.prog) 46 _ _ RC.out Try.underlying46 rfl CI.out)) rfl ⟨rfl, K.out⟩
  · skip
    go_simp
    have pb := Blk.new Y3h0 40 #[.int .u16 0]
    have hy := (Below.refl Y3h0.heap.size Y3h0).alloc (Nat.le_refl _) (.cells #[.int .u16 0] 40)
    obtain ⟨gD, hgD⟩ : ∃ g, g = Y3h0.heap.size := ⟨_, rfl⟩
    have hg0D : V1.heap.size ≤ gD := by rw [hgD]; exact KB.out.size
    replace K := lh (K.out.trans (hy.mono K.out.size))
    replace HT := lh (HT.out.below hy)
    replace TB := lh (TB.out.below hy TB.out.lt)
    replace FB := lh (FB.out.below hy FB.out.lt)
    replace BK := lh (BK.out.below hy BK.out.lt)
    replace BV := lh (BV.out.below hy BV.out.lt)
    replace RP := lh (RP.out.below hy RP.out.lt)
    replace RC := lh (RC.out.below hy RC.out.lt)
    replace KB := lh (KB.out.trans (hy.mono KB.out.size))
    rw [← hgD] at pb ⊢
    have D := lh pb
    clear pb hy hgD
    generalize Y3h0.alloc (.cells #[.int .u16 0] 40) = Y3h1 at *
    refine hK.out _ _ ⟨BK.out, TB.out⟩ (fun _ => ?_)
    clear hK KK
    try simp only [Act.put, tS1, tS2, tS3]
    refine tkO 5 (fun KK hK => ?_)
    go_simp
    refine (CD.out Y3h1 FB.out).mono ?_
    rintro e Y3h2 ⟨rfl, hy⟩
    replace K := lh (K.out.trans (hy.mono K.out.size))
    replace HT := lh (HT.out.below hy)
    replace TB := lh (TB.out.below hy TB.out.lt)
    replace FB := lh (FB.out.below hy FB.out.lt)
    replace BK := lh (BK.out.below hy BK.out.lt)
    replace BV := lh (BV.out.below hy BV.out.lt)
    replace RP := lh (RP.out.below hy RP.out.lt)
    replace RC := lh (RC.out.below hy RC.out.lt)
    replace KB := lh (KB.out.trans (hy.mono KB.out.size))
    replace D := lh (D.out.below hy D.out.lt)
    clear hy
    refine hK.out _ _ ⟨BK.out, TB.out⟩ (fun _ => ?_)
    clear hK KK
    try simp only [Act.put, tS1, tS2, tS3]
    refine tkO 7 (fun KK hK => ?_)
    have k1 : Y3h2.cell? ⟨gD, 0, none⟩ = some (.int .u16 0) := D.out.cell 0
    have k2 := D.out.frozen 0
    go_simp
    replace K := lh (K.out.setCell (p := ⟨gD, 0, none⟩) (by show _ ≤ gD; omega) (.int .u16 (dg : Int)))
    replace HT := lh (HT.out.belowB (((Below.refl (w.heap.size) Y3h2).setCell (p := ⟨gD, 0, none⟩) (by show _ ≤ gD; omega) (.int .u16 (dg : Int)))) (by omega))
    replace TB := lh (TB.out.far (p := ⟨gD, 0, none⟩) (by show _ ≠ gD; omega) (.int .u16 (dg : Int)))
    replace FB := lh (FB.out.far (p := ⟨gD, 0, none⟩) (by show _ ≠ gD; omega) (.int .u16 (dg : Int)))
    replace BK := lh (BK.out.far (p := ⟨gD, 0, none⟩) (by show _ ≠ gD; omega) (.int .u16 (dg : Int)))
    replace BV := lh (BV.out.far (p := ⟨gD, 0, none⟩) (by show _ ≠ gD; omega) (.int .u16 (dg : Int)))
    replace RP := lh (RP.out.far (p := ⟨gD, 0, none⟩) (by show _ ≠ gD; omega) (.int .u16 (dg : Int)))
    replace RC := lh (RC.out.far (p := ⟨gD, 0, none⟩) (by show _ ≠ gD; omega) (.int .u16 (dg : Int)))
    replace KB := lh (KB.out.setCell (p := ⟨gD, 0, none⟩) (by show _ ≤ gD; omega) (.int .u16 (dg : Int)))
    replace D := lh (show Blk _ _ 40 #[.int .u16 (dg : Int)] from D.out.set_ 0 (.int .u16 (dg : Int)))
    clear k1 k2
    generalize Y3h2.setCell ⟨gD, 0, none⟩ (.int .u16 (dg : Int)) = Y3h3 at *
    refine hK.out _ _ ⟨BK.out, TB.out⟩ (fun _ => ?_)
    clear hK KK
    try simp only [Act.put]
    refine wpAnyH_done (by kernel_rfl) ?_ _
    clear KB
    have GD := D
    have L8 : (loadVar 42 ⟨w.heap.size, 0, none⟩).run Try.prog Y3h3 = .ok (.agg kc) Y3h3 := run_blk_load (P := Try.prog) 42 (w.heap.size) _ BK.out Try.underlying42 rfl IK.out
    replace L8 := lh L8
    go_wp2_with (((with_reducible refine wpList_load_want (op := ⟨some 21, .load 42 (.tmp 4), _, _, _, _⟩) ?wg8 42 (.tmp 4) ?wo8 ⟨w.heap.size, 0, none⟩ ?wx8 (.agg kc) L8.out ?_); (case wg8 => rfl); (case wo8 => rfl); (case wx8 => rfl)))
    clear L8
    refine (CF.out gD _ Y3h3 HT.out GD.out BV.out).mono ?_
    rintro e V2 ⟨rfl, hy⟩
    replace K := lh (K.out.trans (hy.mono K.out.size))
    replace HT := lh (HT.out.below hy)
    replace TB := lh (TB.out.below hy TB.out.lt)
    replace FB := lh (FB.out.below hy FB.out.lt)
    replace BK := lh (BK.out.below hy BK.out.lt)
    replace BV := lh (BV.out.below hy BV.out.lt)
    replace RP := lh (RP.out.below hy RP.out.lt)
    replace RC := lh (RC.out.below hy RC.out.lt)
    replace GD := lh (GD.out.below hy GD.out.lt)
    clear hy
    go_wp2_with (((with_reducible refine wpList_blk_store (op := ⟨none, .store 51 (.tmp 6) (.tmp 24), _, _, _, _⟩) ?sg9 51 (.tmp 6) (.tmp 24) ?so9 (w.heap.size + 2) rp ?sx9 ?sy9 RP.out RS.out RI.out RA.out ?_); (case sg9 => rfl); (case so9 => rfl); (case sx9 => rfl); (case sy9 => rfl)))
    intro V3 hA hF hB
    replace K := lh (K.out.trans (hB _ (by omega)))
    replace HT := lh (HT.out.belowB (hB (w.heap.size) (by omega)) (by omega))
    replace TB := lh (show Blk _ _ _ _ from (hF _ (by omega)).trans TB.out)
    replace FB := lh (show Blk _ _ _ _ from (hF _ (by omega)).trans FB.out)
    replace BK := lh (show Blk _ _ _ _ from (hF _ (by omega)).trans BK.out)
    replace BV := lh (show Blk _ _ _ _ from (hF _ (by omega)).trans BV.out)
    replace RC := lh (show Blk _ _ _ _ from (hF _ (by omega)).trans RC.out)
    replace GD := lh (show Blk _ _ _ _ from (hF _ (by omega)).trans GD.out)
    replace RP := lh hA
    clear hA hF hB
    go_wp2_with (((with_reducible refine wpList_blk_store (op := ⟨none, .store 46 (.tmp 7) (.tmp 25), _, _, _, _⟩) ?sg10 46 (.tmp 7) (.tmp 25) ?so10 (w.heap.size + 3) rc ?sx10 ?sy10 RC.out CS.out CI.out CA.out ?_); (case sg10 => rfl); (case so10 => rfl); (case sx10 => rfl); (case sy10 => rfl)))
    intro V4 hA hF hB
    replace K := lh (K.out.trans (hB _ (by omega)))
    replace HT := lh (HT.out.belowB (hB (w.heap.size) (by omega)) (by omega))
    replace TB := lh (show Blk _ _ _ _ from (hF _ (by omega)).trans TB.out)
    replace FB := lh (show Blk _ _ _ _ from (hF _ (by omega)).trans FB.out)
    replace BK := lh (show Blk _ _ _ _ from (hF _ (by omega)).trans BK.out)
    replace BV := lh (show Blk _ _ _ _ from (hF _ (by omega)).trans BV.out)
    replace RP := lh (show Blk _ _ _ _ from (hF _ (by omega)).trans RP.out)
    replace GD := lh (show Blk _ _ _ _ from (hF _ (by omega)).trans GD.out)
    replace RC := lh hA
    clear hA hF hB
    go_wp2
    exact bodyPost_ret (results_cell2_tmp 6 7 8 51 46 _ _ _ _ rfl rfl rfl (run_blk_load (P := Try.prog) 51 _ _ RP.out Try.underlying51 rfl RI.out) (run_blk_load (P := Try.prog) 46 _ _ RC.out Try.underlying46 rfl CI.out)) rfl ⟨rfl, K.out⟩
set_option maxRecDepth 100000 in
set_option maxHeartbeats 4000000 in
theorem find_any (tn fn B : Nat) (cf : Cf) (c : Nat → Option Se) (hc : cf.Fit) (hok : okC cf = true) (k : Fl) (hk : k.Fit) (w : World) (h : TS tn fn B cf c w) :
    Calls Try.prog 21 #[.pointer (some ⟨tn, 0, none⟩), .agg k.cs] w fun e w' => e = .returned (.tuple #[.agg (rP (fst1 (lkN cf.st.toNat cf.sz.toNat c) (fun s => decide (s.k = k)) (plL cf k))), .agg (rC (fst1 (lkN cf.st.toNat cf.sz.toNat c) (fun s => decide (s.k = k)) (plL cf k))), .bool (fst1 (lkN cf.st.toNat cf.sz.toNat c) (fun s => decide (s.k = k)) (plL cf k)).isSome]) ∧ Below w.heap.size w w' := by
  have CF := lh (fun pk W h h1 => firstF_any tn fn B cf c hc hok k hk k hk pk W h h1)
  have K := lh (Below.refl w.heap.size w)
  have HT := lh h
  have TB := lh h.T
  have htw := h.lt
  have hft : fn < tn := by have := h.hF; have := h.hT; omega
  obtain ⟨T0', T1', T2'⟩ := tbC_get fn B cf.ev
  have T0 := lh T0'
  clear T0' T1' T2'
  obtain ⟨tc, htc⟩ : ∃ x, x = tbC fn B cf.ev := ⟨_, rfl⟩
  rw [← htc] at TB T0
  clear htc
  have hqt := eqt_some ⟨tn, 0, none⟩
  obtain ⟨o, ho⟩ : ∃ o, o = fst1 (lkN cf.st.toNat cf.sz.toNat c) (fun s => decide (s.k = k)) (plL cf k) := ⟨_, rfl⟩
  rw [← ho] at CF ⊢
  clear ho
  have RS := lh (rP_size o)
  have RI : Hid ((Try.prog.info? 51).map (·.size) = some (rP o).size) := by show _ = _; rw [rP_size]; exact i51c
  have RA := lh (rP_all o)
  have CS := lh (rC_size o)
  have CI : Hid ((Try.prog.info? 46).map (·.size) = some (rC o).size) := by show _ = _; rw [rC_size]; exact i46c
  have CA := lh (rC_all o)
  generalize rP o = rp at *
  generalize rC o = rc at *
  generalize o.isSome = ob at *
  have IK := lh (fl_ik k hk)
  generalize k.cs = kc at *
  clear h hk hc hok
  have ZP : Hid ((Try.prog.info? 51).map (·.size) = some (#[Value.int .i64 0, .int .i64 0] : Array Value).size) := i51c
  have ZC : Hid ((Try.prog.info? 46).map (·.size) = some zCe.size) := i46c
  have hz46 := zero46
  go_enter Try.func21, Try.ntmps21
  have hal := (Below.refl w.heap.size w).alloc (Nat.le_refl _) (.cells kc 42)
  replace K := lh (K.out.trans (hal.mono K.out.size))
  replace HT := lh (HT.out.below hal)
  replace TB := lh (TB.out.below hal TB.out.lt)
  have BK := lh (Blk.new w 42 kc)
  clear hal
  have hal := (Below.refl (w.alloc (.cells kc 42)).heap.size (w.alloc (.cells kc 42))).alloc (Nat.le_refl _) (.cells #[.int .i64 0, .int .i64 0] 51)
  replace K := lh (K.out.trans (hal.mono K.out.size))
  replace HT := lh (HT.out.below hal)
  replace TB := lh (TB.out.below hal TB.out.lt)
  replace BK := lh (BK.out.below hal BK.out.lt)
  have RPq := Blk.new (w.alloc (.cells kc 42)) 51 #[.int .i64 0, .int .i64 0]
  simp only [World.size_alloc] at RPq
  have RP := lh RPq
  clear RPq
  clear hal
  have hal := (Below.refl ((w.alloc (.cells kc 42)).alloc (.cells #[.int .i64 0, .int .i64 0] 51)).heap.size ((w.alloc (.cells kc 42)).alloc (.cells #[.int .i64 0, .int .i64 0] 51))).alloc (Nat.le_refl _) (.cells zCe 46)
  replace K := lh (K.out.trans (hal.mono K.out.size))
  replace HT := lh (HT.out.below hal)
  replace TB := lh (TB.out.below hal TB.out.lt)
  replace BK := lh (BK.out.below hal BK.out.lt)
  replace RP := lh (RP.out.below hal RP.out.lt)
  have RCq := Blk.new ((w.alloc (.cells kc 42)).alloc (.cells #[.int .i64 0, .int .i64 0] 51)) 46 zCe
  simp only [World.size_alloc] at RCq
  have RC := lh RCq
  clear RCq
  clear hal
  go_upto_region 3 with fail
  have hzV1 : Hid ((((w.alloc (.cells kc 42)).alloc (.cells #[.int .i64 0, .int .i64 0] 51)).alloc (.cells zCe 46)).heap.size = w.heap.size + 1 + 1 + 1) := by show _ = _; simp only [World.size_alloc]
  generalize (((w.alloc (.cells kc 42)).alloc (.cells #[.int .i64 0, .int .i64 0] 51)).alloc (.cells zCe 46)) = V1 at *
  have hRl := RC.out.lt
  clear hz46
  have L11 : (loadVar 42 ⟨w.heap.size, 0, none⟩).run Try.prog V1 = .ok (.agg kc) V1 := run_blk_load (P := Try.prog) 42 (w.heap.size) _ BK.out Try.underlying42 rfl IK.out
  replace L11 := lh L11
  go_wp2_with (((with_reducible refine wpList_load_want (op := ⟨some 12, .load 42 (.tmp 3), _, _, _, _⟩) ?wg11 42 (.tmp 3) ?wo11 ⟨w.heap.size, 0, none⟩ ?wx11 (.agg kc) L11.out ?_); (case wg11 => rfl); (case wo11 => rfl); (case wx11 => rfl)))
  clear L11
  refine (CF.out _ V1 HT.out BK.out).mono ?_
  rintro e V2 ⟨rfl, hy⟩
  replace K := lh (K.out.trans (hy.mono K.out.size))
  replace HT := lh (HT.out.below hy)
  replace TB := lh (TB.out.below hy TB.out.lt)
  replace BK := lh (BK.out.below hy BK.out.lt)
  replace RP := lh (RP.out.below hy RP.out.lt)
  replace RC := lh (RC.out.below hy RC.out.lt)
  clear hy
  go_wp2_with (((with_reducible refine wpList_blk_store (op := ⟨none, .store 51 (.tmp 4) (.tmp 15), _, _, _, _⟩) ?sg12 51 (.tmp 4) (.tmp 15) ?so12 (w.heap.size + 1) rp ?sx12 ?sy12 RP.out RS.out RI.out RA.out ?_); (case sg12 => rfl); (case so12 => rfl); (case sx12 => rfl); (case sy12 => rfl)))
  intro V3 hA hF hB
  replace K := lh (K.out.trans (hB _ (by omega)))
  replace HT := lh (HT.out.belowB (hB (w.heap.size) (by omega)) (by omega))
  replace TB := lh (show Blk _ _ _ _ from (hF _ (by omega)).trans TB.out)
  replace BK := lh (show Blk _ _ _ _ from (hF _ (by omega)).trans BK.out)
  replace RC := lh (show Blk _ _ _ _ from (hF _ (by omega)).trans RC.out)
  replace RP := lh hA
  clear hA hF hB
  go_wp2_with (((with_reducible refine wpList_blk_store (op := ⟨none, .store 46 (.tmp 5) (.tmp 16), _, _, _, _⟩) ?sg13 46 (.tmp 5) (.tmp 16) ?so13 (w.heap.size + 2) rc ?sx13 ?sy13 RC.out CS.out CI.out CA.out ?_); (case sg13 => rfl); (case so13 => rfl); (case sx13 => rfl); (case sy13 => rfl)))
  intro V4 hA hF hB
  replace K := lh (K.out.trans (hB _ (by omega)))
  replace HT := lh (HT.out.belowB (hB (w.heap.size) (by omega)) (by omega))
  replace TB := lh (show Blk _ _ _ _ from (hF _ (by omega)).trans TB.out)
  replace BK := lh (show Blk _ _ _ _ from (hF _ (by omega)).trans BK.out)
  replace RP := lh (show Blk _ _ _ _ from (hF _ (by omega)).trans RP.out)
  replace RC := lh hA
  clear hA hF hB
  go_wp2
  exact bodyPost_ret (results_cell2_tmp 4 5 6 51 46 _ _ _ _ rfl rfl rfl (run_blk_load (P := Try.prog) 51 _ _ RP.out Try.underlying51 rfl RI.out) (run_blk_load (P := Try.prog) 46 _ _ RC.out Try.underlying46 rfl CI.out)) rfl ⟨rfl, K.out⟩
end Go.Proofs.Ythldpnifodbheaa
namespace Go.Proofs.Ythldpnifodbheaa
open Go.RowKit Go.Shelf
attribute [local go_sem] Oper.semAt_some
def mtF (L : List Pl) (x : Pl) : Bool := decide (x.1 < L.length) && decide (L.getD x.1 (0, 0) = x)
def RdP (W : World) (v : Value) (L : List Pl) : Prop :=
  ∃ g cap cur, v = .slice (some ⟨g, 0, none⟩) L.length cap ∧ Blk W g 51 cur ∧ ∀ i, i < L.length → cur[i * 2]? = some (.int .i64 ((L.getD i (0, 0)).1 : Int)) ∧ cur[i * 2 + 1]? = some (.int .i64 ((L.getD i (0, 0)).2 : Int))
theorem RdP.below {W W' : World} {v : Value} {L : List Pl} (h : RdP W v L) (hb : Below W.heap.size W W') : RdP W' v L := by
  obtain ⟨g, cap, cur, e, hB, hc⟩ := h
  exact ⟨g, cap, cur, e, hB.below hb hB.lt, hc⟩
theorem RdP.of_own {W : World} {base : Nat} {v : Value} {L : List Pl} (h : W.ownsRow base 51 2 v L.length (pcells L)) (hn : 0 < L.length) : RdP W v L := by
  obtain ⟨g, cap, cur, e, hB, hc⟩ := row_blk h hn
  refine ⟨g, cap, cur, e, hB, fun i hi => ?_⟩
  obtain ⟨h1, h2⟩ := pcells_get L i hi
  exact ⟨hc _ _ h1, hc _ _ h2⟩
theorem load_pl {W : World} {g i : Nat} {cur : Array Value} (h : Blk W g 51 cur) (x : Pl) (h0 : cur[i * 2]? = some (.int .i64 (x.1 : Int))) (h1 : cur[i * 2 + 1]? = some (.int .i64 (x.2 : Int))) :
    (loadVar 51 ⟨g, i * 2, none⟩).run Try.prog W = .ok (.agg (pcP x)) W :=
  run_loadVar_mid (P := Try.prog) W g (i * 2) 51 [.int .i64 (x.1 : Int), .int .i64 (x.2 : Int)] _ (fun j v hj => by
    rw [h.cell]
    have hj2 : j < 2 := (List.getElem?_eq_some_iff.1 hj).1
    match j, hj2, hj with
    | 0, _, hj => cases hj; exact h0
    | 1, _, hj => cases hj; exact h1) Try.underlying51 rfl i51c
def smP (x : Pl) : Prop := x.1 < 4294967296 ∧ x.2 < 4294967296
set_option maxRecDepth 100000 in
theorem eqP (x y : Pl) (hx : smP x) (hy : smP y) (w : World) : (Op.equalIn Op.maxDepth 51 (.agg (pcP x)) (.agg (pcP y))).run Try.prog w = .ok (decide (x = y)) w := by
  obtain ⟨h1, h2⟩ := hx
  obtain ⟨h3, h4⟩ := hy
  have := eq_pl (x.1 : Int) (x.2 : Int) (y.1 : Int) (y.2 : Int) (i64_wf _ (by omega) (by omega)) (i64_wf _ (by omega) (by omega)) (i64_wf _ (by omega) (by omega)) (i64_wf _ (by omega) (by omega)) w
  unfold pcP
  rw [this]
  congr 1
  rw [decide_eq_decide]
  constructor
  · rintro ⟨q1, q2⟩; exact Prod.ext (by omega) (by omega)
  · rintro rfl; exact ⟨rfl, rfl⟩
theorem plL_sm (cf : Cf) (hok : okC cf = true) (k : Fl) (i : Nat) : smP ((plL cf k).getD i (0, 0)) := by
  cases hv : vK k with
  | false => rw [plL_no hv]; exact ⟨by show (0 : Nat) < _; omega, by show (0 : Nat) < _; omega⟩
  | true =>
    by_cases hi : i < cf.st.toNat
    · rw [plL_get cf k hv i hi]
      obtain ⟨h1, h2⟩ := okC_st hok
      exact ⟨by show i < _; omega, plN_lt cf k i hok⟩
    · rw [List.getD_eq_getElem?_getD, List.getElem?_eq_none (by rw [plL_len cf k hv]; omega)]
      exact ⟨by show (0 : Nat) < _; omega, by show (0 : Nat) < _; omega⟩
set_option maxRecDepth 100000 in
set_option maxHeartbeats 4000000 in
theorem meetsF_any (tn fn B : Nat) (cf : Cf) (c : Nat → Option Se) (hc : cf.Fit) (hok : okC cf = true) (k : Fl) (hk : k.Fit) (x : Pl) (hx : smP x) (pt pk : Nat) (w : World) (h : TS tn fn B cf c w) (ht : Boxed w pt 31 (.pointer (some ⟨tn, 0, none⟩))) (hb : Blk w pk 42 k.cs) :
    Calls Try.prog 66 #[.agg (pcP x), .pointer (some ⟨pt, 0, none⟩), .pointer (some ⟨pk, 0, none⟩)] w fun e w' => e = .returned (.bool (mtF (plL cf k) x)) ∧ Below w.heap.size w w' := by
  have CP := lh (fun W h => place_any cf hc hok k hk fn x.1 W h)
  have EQ := lh (fun W => (show (Op.equalIn 10000 51 (.agg (pcP ((plL cf k).getD x.1 (0, 0)))) (.agg (pcP x))).run Try.prog W = _ from eqP ((plL cf k).getD x.1 (0, 0)) x (plL_sm cf hok k x.1) hx W))
  change Hid (∀ W, _ → Calls _ _ _ W fun e w' => e = .returned (.tuple #[.agg (pcP ((plL cf k).getD x.1 (0, 0))), _]) ∧ _) at CP
  have K := lh (Below.refl w.heap.size w)
  have TB := lh h.T
  have FB := lh h.F
  have htw := h.lt
  obtain ⟨T0', -, -⟩ := tbC_get fn B cf.ev
  have T0 := lh T0'
  have IK := lh (fl_ik k hk)
  have PT := lh (show Blk w pt 31 #[.pointer (some ⟨tn, 0, none⟩)] from ht)
  have PK := lh hb
  unfold mtF
  obtain ⟨y, hy⟩ : ∃ y, y = (plL cf k).getD x.1 (0, 0) := ⟨_, rfl⟩
  rw [← hy] at CP EQ ⊢
  generalize decide (x.1 < (plL cf k).length) = qa at *
  generalize decide (y = x) = qb at *
  have PI : Hid ((Try.prog.info? 51).map (·.size) = some (pcP x).size) := i51c
  have YI : Hid ((Try.prog.info? 51).map (·.size) = some (pcP y).size) := i51c
  have YS : Hid ((pcP y).size = (#[Value.int .i64 0, .int .i64 0] : Array Value).size) := rfl
  have YA : Hid ((pcP y).all (·.oneCell') = true) := pcP_all y
  have X0 : Hid ((pcP x)[0]? = some (.int .i64 (x.1 : Int))) := rfl
  generalize tbC fn B cf.ev = tc at *
  generalize famC cf = fc at *
  generalize k.cs = kc at *
  generalize pcP x = px at *
  generalize pcP y = py at *
  clear h ht hb hy hk T0' hx
  go_enter Try.func66, Try.ntmps66
  have hal := (Below.refl w.heap.size w).alloc (Nat.le_refl _) (.cells px 51)
  replace K := lh (K.out.trans (hal.mono K.out.size))
  replace TB := lh (TB.out.below hal TB.out.lt)
  replace FB := lh (FB.out.below hal FB.out.lt)
  replace PT := lh (PT.out.below hal PT.out.lt)
  replace PK := lh (PK.out.below hal PK.out.lt)
  have P := lh (Blk.new w 51 px)
  clear hal
  go_upto_region 1 with fail
  have hzV1 : Hid ((w.alloc (.cells px 51)).heap.size = w.heap.size + 1) := by show _ = _; simp only [World.size_alloc]
  generalize (w.alloc (.cells px 51)) = V1 at *
  have hP := P.out.lt
  have hT := TB.out.lt
  have hF := FB.out.lt
  have hPT := PT.out.lt
  have hPK := PK.out.lt
  have hKw := K.out.size
  have KB := lh (Below.refl V1.heap.size V1)
  refine wp_region_held (S := (fun w' : World => Blk w' (pt) 31 #[.pointer (some ⟨tn, 0, none⟩)] ∧ Blk w' (tn) 80 tc ∧ Blk w' (pk) 42 kc ∧ Blk w' (w.heap.size) 51 px)) (by kernel_rfl) ?_
  change wpAnyH _ _ _ _ _ _ _ _ V1.drew
  have hy : Below V1.heap.size V1 V1.drew := (Below.refl _ _).drew
  replace K := lh (K.out.trans (hy.mono K.out.size))
  replace TB := lh (TB.out.below hy TB.out.lt)
  replace FB := lh (FB.out.below hy FB.out.lt)
  replace PT := lh (PT.out.below hy PT.out.lt)
  replace PK := lh (PK.out.below hy PK.out.lt)
  replace P := lh (P.out.below hy P.out.lt)
  replace KB := lh (KB.out.trans (hy.mono KB.out.size))
  clear hy
  generalize V1.drew = Y1h0 at *
  refine tkA 0 (?_) ?_ ⟨PT.out, TB.out, PK.out, P.out⟩ ?_
  rotate_left
  · (intro w1 hS; obtain ⟨hS0, hS1, hS2, hS3⟩ := hS; have q := hS0.cell 0; go_simp; try with_reducible rfl)
  simp only [Act.put, tS1, tS2, tS3]
  refine tkA 1 (?_) ?_ ⟨PT.out, TB.out, PK.out, P.out⟩ ?_
  rotate_left
  · (intro w1 hS; go_simp; try with_reducible rfl)
  simp only [Act.put, tS1, tS2, tS3]
  refine tkA 2 (?_) ?_ ⟨PT.out, TB.out, PK.out, P.out⟩ ?_
  rotate_left
  · (intro w1 hS; go_simp; try with_reducible rfl)
  simp only [Act.put, tS1, tS2, tS3]
  refine tkA 3 (?_) ?_ ⟨PT.out, TB.out, PK.out, P.out⟩ ?_
  rotate_left
  · (intro w1 hS; obtain ⟨hS0, hS1, hS2, hS3⟩ := hS; have q := (hS1.cell 0).trans T0.out; go_simp; try with_reducible rfl)
  simp only [Act.put, tS1, tS2, tS3]
  refine tkA 4 (.agg kc) ?_ ⟨PT.out, TB.out, PK.out, P.out⟩ ?_
  · (intro w1 hS; obtain ⟨hS0, hS1, hS2, hS3⟩ := hS; exact exec_load 42 (.tmp 2) rfl _ rfl _ (run_blk_load (P := Try.prog) 42 (pk) _ hS2 Try.underlying42 rfl IK.out))
  simp only [Act.put, tS1, tS2, tS3]
  refine tkA 5 (?_) ?_ ⟨PT.out, TB.out, PK.out, P.out⟩ ?_
  rotate_left
  · (intro w1 hS; go_simp; try with_reducible rfl)
  simp only [Act.put, tS1, tS2, tS3]
  refine tkA 6 (?_) ?_ ⟨PT.out, TB.out, PK.out, P.out⟩ ?_
  rotate_left
  · (intro w1 hS; obtain ⟨hS0, hS1, hS2, hS3⟩ := hS; have q := (hS3.cell 0).trans X0.out; go_simp; try with_reducible rfl)
  simp only [Act.put, tS1, tS2, tS3]
  refine tkB 7 11 (fun KK hK => ?_) (fun KK hK => ?_)
  · skip
    go_simp
    refine (CP.out Y1h0 FB.out).mono ?_
    rintro e Y1h1 ⟨rfl, hy⟩
    replace K := lh (K.out.trans (hy.mono K.out.size))
    replace TB := lh (TB.out.below hy TB.out.lt)
    replace FB := lh (FB.out.below hy FB.out.lt)
    replace PT := lh (PT.out.below hy PT.out.lt)
    replace PK := lh (PK.out.below hy PK.out.lt)
    replace P := lh (P.out.below hy P.out.lt)
    replace KB := lh (KB.out.trans (hy.mono KB.out.size))
    clear hy
    refine hK.out _ _ ⟨PT.out, TB.out, PK.out, P.out⟩ (fun _ => ?_)
    clear hK KK
    try simp only [Act.put, tS1, tS2, tS3]
    refine tkA 8 (?_) ?_ ⟨PT.out, TB.out, PK.out, P.out⟩ ?_
    rotate_left
    · (intro w1 hS; go_simp; try with_reducible rfl)
    simp only [Act.put, tS1, tS2, tS3]
    refine tkA 9 (?_) ?_ ⟨PT.out, TB.out, PK.out, P.out⟩ ?_
    rotate_left
    · (intro w1 hS; go_simp; try with_reducible rfl)
    simp only [Act.put, tS1, tS2, tS3]
    refine tkA 10 (?_) ?_ ⟨PT.out, TB.out, PK.out, P.out⟩ ?_
    rotate_left
    · (intro w1 hS; go_simp; try with_reducible rfl)
    simp only [Act.put, tS1, tS2, tS3]
    refine tkO 11 (fun KK hK => ?_)
    go_simp
    have pb := Blk.new Y1h1 51 #[.int .i64 0, .int .i64 0]
    have hy := (Below.refl Y1h1.heap.size Y1h1).alloc (Nat.le_refl _) (.cells #[.int .i64 0, .int .i64 0] 51)
    obtain ⟨gO, hgO⟩ : ∃ g, g = Y1h1.heap.size := ⟨_, rfl⟩
    have hg0O : V1.heap.size ≤ gO := by rw [hgO]; exact KB.out.size
    replace K := lh (K.out.trans (hy.mono K.out.size))
    replace TB := lh (TB.out.below hy TB.out.lt)
    replace FB := lh (FB.out.below hy FB.out.lt)
    replace PT := lh (PT.out.below hy PT.out.lt)
    replace PK := lh (PK.out.below hy PK.out.lt)
    replace P := lh (P.out.below hy P.out.lt)
    replace KB := lh (KB.out.trans (hy.mono KB.out.size))
    rw [← hgO] at pb ⊢
    have O := lh pb
    clear pb hy hgO
    generalize Y1h1.alloc (.cells #[.int .i64 0, .int .i64 0] 51) = Y1h2 at *
    refine hK.out _ _ ⟨PT.out, TB.out, PK.out, P.out⟩ (fun _ => ?_)
    clear hK KK
    try simp only [Act.put, tS1, tS2, tS3]
    refine tkO 12 (fun KK hK => ?_)
    rw [if_pos (by rfl)]
    refine wp_blk_store 51 (.tmp 5) (.tmp 16) rfl py rfl rfl O.out YS.out YI.out YA.out ?_
    intro Y1h3 hA hF hB
    replace K := lh (K.out.trans (hB _ (by omega)))
    replace TB := lh (show Blk _ _ _ _ from (hF _ (by omega)).trans TB.out)
    replace FB := lh (show Blk _ _ _ _ from (hF _ (by omega)).trans FB.out)
    replace PT := lh (show Blk _ _ _ _ from (hF _ (by omega)).trans PT.out)
    replace PK := lh (show Blk _ _ _ _ from (hF _ (by omega)).trans PK.out)
    replace P := lh (show Blk _ _ _ _ from (hF _ (by omega)).trans P.out)
    replace KB := lh (KB.out.trans (hB _ (by omega)))
    replace O := lh hA
    clear hA hF hB
    refine hK.out _ _ ⟨PT.out, TB.out, PK.out, P.out⟩ (fun _ => ?_)
    clear hK KK
    try simp only [Act.put]
    refine tkA 13 (?_) ?_ ⟨PT.out, TB.out, PK.out, P.out⟩ ?_
    rotate_left
    · (intro w1 hS; go_simp; try with_reducible rfl)
    simp only [Act.put, tS1, tS2, tS3]
    refine wpAnyH_done (by kernel_rfl) ?_ _
    clear KB
    have hqe := EQ.out
    cases qa with
    | false =>
      go_wp2
      go_ret
      exact ⟨rfl, K.out⟩
    | true =>
      have L1 : (loadVar 51 ⟨gO, 0, none⟩).run Try.prog Y1h3 = .ok (.agg py) Y1h3 := run_blk_load (P := Try.prog) 51 (gO) _ O.out Try.underlying51 rfl YI.out
      replace L1 := lh L1
      have L2 : (loadVar 51 ⟨w.heap.size, 0, none⟩).run Try.prog Y1h3 = .ok (.agg px) Y1h3 := run_blk_load (P := Try.prog) 51 (w.heap.size) _ P.out Try.underlying51 rfl PI.out
      replace L2 := lh L2
      go_wp2_with (first | ((with_reducible refine wpList_load_want (op := ⟨some 20, .load 51 (.tmp 5), _, _, _, _⟩) ?wg1 51 (.tmp 5) ?wo1 ⟨gO, 0, none⟩ ?wx1 (.agg py) L1.out ?_); (case wg1 => rfl); (case wo1 => rfl); (case wx1 => rfl)) | ((with_reducible refine wpList_load_want (op := ⟨some 21, .load 51 (.tmp 3), _, _, _, _⟩) ?wg2 51 (.tmp 3) ?wo2 ⟨w.heap.size, 0, none⟩ ?wx2 (.agg px) L2.out ?_); (case wg2 => rfl); (case wo2 => rfl); (case wx2 => rfl)))
      clear L1 L2
      go_ret
      exact ⟨rfl, K.out⟩
  · skip
    go_simp
    have pb := Blk.new Y1h0 51 #[.int .i64 0, .int .i64 0]
    have hy := (Below.refl Y1h0.heap.size Y1h0).alloc (Nat.le_refl _) (.cells #[.int .i64 0, .int .i64 0] 51)
    obtain ⟨gO, hgO⟩ : ∃ g, g = Y1h0.heap.size := ⟨_, rfl⟩
    have hg0O : V1.heap.size ≤ gO := by rw [hgO]; exact KB.out.size
    replace K := lh (K.out.trans (hy.mono K.out.size))
    replace TB := lh (TB.out.below hy TB.out.lt)
    replace FB := lh (FB.out.below hy FB.out.lt)
    replace PT := lh (PT.out.below hy PT.out.lt)
    replace PK := lh (PK.out.below hy PK.out.lt)
    replace P := lh (P.out.below hy P.out.lt)
    replace KB := lh (KB.out.trans (hy.mono KB.out.size))
    rw [← hgO] at pb ⊢
    have O := lh pb
    clear pb hy hgO
    generalize Y1h0.alloc (.cells #[.int .i64 0, .int .i64 0] 51) = Y1h1 at *
    refine hK.out _ _ ⟨PT.out, TB.out, PK.out, P.out⟩ (fun _ => ?_)
    clear hK KK
    try simp only [Act.put, tS1, tS2, tS3]
    refine tkO 7 (fun KK hK => ?_)
    go_simp
    refine (CP.out Y1h1 FB.out).mono ?_
    rintro e Y1h2 ⟨rfl, hy⟩
    replace K := lh (K.out.trans (hy.mono K.out.size))
    replace TB := lh (TB.out.below hy TB.out.lt)
    replace FB := lh (FB.out.below hy FB.out.lt)
    replace PT := lh (PT.out.below hy PT.out.lt)
    replace PK := lh (PK.out.below hy PK.out.lt)
    replace P := lh (P.out.below hy P.out.lt)
    replace KB := lh (KB.out.trans (hy.mono KB.out.size))
    replace O := lh (O.out.below hy O.out.lt)
    clear hy
    refine hK.out _ _ ⟨PT.out, TB.out, PK.out, P.out⟩ (fun _ => ?_)
    clear hK KK
    try simp only [Act.put, tS1, tS2, tS3]
    refine tkA 8 (?_) ?_ ⟨PT.out, TB.out, PK.out, P.out⟩ ?_
    rotate_left
    · (intro w1 hS; go_simp; try with_reducible rfl)
    simp only [Act.put, tS1, tS2, tS3]
    refine tkA 9 (?_) ?_ ⟨PT.out, TB.out, PK.out, P.out⟩ ?_
    rotate_left
    · (intro w1 hS; go_simp; try with_reducible rfl)
    simp only [Act.put, tS1, tS2, tS3]
    refine tkA 10 (?_) ?_ ⟨PT.out, TB.out, PK.out, P.out⟩ ?_
    rotate_left
    · (intro w1 hS; go_simp; try with_reducible rfl)
    simp only [Act.put, tS1, tS2, tS3]
    refine tkO 12 (fun KK hK => ?_)
    rw [if_pos (by rfl)]
    refine wp_blk_store 51 (.tmp 5) (.tmp 16) rfl py rfl rfl O.out YS.out YI.out YA.out ?_
    intro Y1h3 hA hF hB
    replace K := lh (K.out.trans (hB _ (by omega)))
    replace TB := lh (show Blk _ _ _ _ from (hF _ (by omega)).trans TB.out)
    replace FB := lh (show Blk _ _ _ _ from (hF _ (by omega)).trans FB.out)
    replace PT := lh (show Blk _ _ _ _ from (hF _ (by omega)).trans PT.out)
    replace PK := lh (show Blk _ _ _ _ from (hF _ (by omega)).trans PK.out)
    replace P := lh (show Blk _ _ _ _ from (hF _ (by omega)).trans P.out)
    replace KB := lh (KB.out.trans (hB _ (by omega)))
    replace O := lh hA
    clear hA hF hB
    refine hK.out _ _ ⟨PT.out, TB.out, PK.out, P.out⟩ (fun _ => ?_)
    clear hK KK
    try simp only [Act.put]
    refine tkA 13 (?_) ?_ ⟨PT.out, TB.out, PK.out, P.out⟩ ?_
    rotate_left
    · (intro w1 hS; go_simp; try with_reducible rfl)
    simp only [Act.put, tS1, tS2, tS3]
    refine wpAnyH_done (by kernel_rfl) ?_ _
    clear KB
    have hqe := EQ.out
    cases qa with
    | false =>
      go_wp2
      go_ret
      exact ⟨rfl, K.out⟩
    | true =>
      have L3 : (loadVar 51 ⟨gO, 0, none⟩).run Try.prog Y1h3 = .ok (.agg py) Y1h3 := run_blk_load (P := Try.prog) 51 (gO) _ O.out Try.underlying51 rfl YI.out
      replace L3 := lh L3
      have L4 : (loadVar 51 ⟨w.heap.size, 0, none⟩).run Try.prog Y1h3 = .ok (.agg px) Y1h3 := run_blk_load (P := Try.prog) 51 (w.heap.size) _ P.out Try.underlying51 rfl PI.out
      replace L4 := lh L4
      go_wp2_with (first | ((with_reducible refine wpList_load_want (op := ⟨some 20, .load 51 (.tmp 5), _, _, _, _⟩) ?wg3 51 (.tmp 5) ?wo3 ⟨gO, 0, none⟩ ?wx3 (.agg py) L3.out ?_); (case wg3 => rfl); (case wo3 => rfl); (case wx3 => rfl)) | ((with_reducible refine wpList_load_want (op := ⟨some 21, .load 51 (.tmp 3), _, _, _, _⟩) ?wg4 51 (.tmp 3) ?wo4 ⟨w.heap.size, 0, none⟩ ?wx4 (.agg px) L4.out ?_); (case wg4 => rfl); (case wo4 => rfl); (case wx4 => rfl)))
      clear L3 L4
      go_ret
      exact ⟨rfl, K.out⟩
end Go.Proofs.Ythldpnifodbheaa
namespace Go.Proofs.Ythldpnifodbheaa
open Go.RowKit Go.Shelf
attribute [local go_sem] Oper.semAt_some
theorem any_take_snoc (q : Pl → Bool) (L : List Pl) (j : Nat) (h : j < L.length) : (L.take (j + 1)).any q = ((L.take j).any q || q (L.getD j (0, 0))) := by
  rw [← take_snocP L j h, List.any_append, List.any_cons, List.any_nil, Bool.or_false]
theorem any_of_take (q : Pl → Bool) (L : List Pl) (j : Nat) (h : j < L.length) (hq : q (L.getD j (0, 0)) = true) : L.any q = true := by
  rw [List.any_eq_true]
  refine ⟨L.getD j (0, 0), ?_, hq⟩
  rw [List.getD_eq_getElem?_getD, List.getElem?_eq_getElem h]
  exact List.getElem_mem h
set_option maxRecDepth 100000 in
set_option maxHeartbeats 4000000 in
theorem index_any (tn fn B : Nat) (cf : Cf) (c : Nat → Option Se) (hc : cf.Fit) (hok : okC cf = true) (k : Fl) (hk : k.Fit) (v : Value) (L : List Pl) (hL : ∀ i, smP (L.getD i (0, 0))) (hl : L.length ≤ 1000) (pt pk : Nat) (w : World) (h : TS tn fn B cf c w) (ht : Boxed w pt 31 (.pointer (some ⟨tn, 0, none⟩))) (hb : Blk w pk 42 k.cs) (hr : RdP w v L) :
    Calls Try.prog 78 #[v, .func (.func 66) #[] #[.pointer (some ⟨pt, 0, none⟩), .pointer (some ⟨pk, 0, none⟩)]] w fun e w' => (∃ r : Int, e = .returned (.int .i64 r) ∧ decide (r ≥ 0) = L.any (mtF (plL cf k))) ∧ Below w.heap.size w w' := by
  have CM := lh (fun i W h1 h2 h3 => meetsF_any tn fn B cf c hc hok k hk (L.getD i (0, 0)) (hL i) pt pk W h1 h2 h3)
  have K := lh (Below.refl w.heap.size w)
  have HT := lh h
  have PT := lh (show Blk w pt 31 #[.pointer (some ⟨tn, 0, none⟩)] from ht)
  have PK := lh hb
  generalize mtF (plL cf k) = q at *
  generalize k.cs = kc at *
  obtain ⟨g, cap, cur, rfl, hB, hcur⟩ := hr
  have CB := lh hB
  have HC := lh hcur
  obtain ⟨n, hn⟩ : ∃ n, n = L.length := ⟨_, rfl⟩
  have HN := lh hn
  rw [← hn] at hl ⊢
  clear h ht hb hB hcur hn hL hk hc hok
  go_enter Try.func78, Try.ntmps78
  go_wp2
  go_loopw [8] (fun i wr => ∃ j : Nat, j ≤ n ∧ i = .int .i64 (j : Int) ∧ Hid ((L.take j).any q = false) ∧ Hid (Below w.heap.size w wr)) (fun i _ => n - (RowKit.intOf i).toNat)
  case atStart => exact ⟨0, Nat.zero_le _, rfl, lh rfl, K⟩
  case round =>
    obtain ⟨j, hj, rfl, HA, Kr⟩ := hrel
    clear K
    by_cases hlt : j < n
    · have d8 : decide ((j : Int) < (n : Int)) = true := decide_eq_true (by omega)
      have d9 : decide (j < n) = true := decide_eq_true (by omega)
      have w6 : IntKind.i64.wrap ((j : Int) + 1) = ((j + 1 : Nat) : Int) := by rw [IntKind.wrap_i64]; omega
      have hb2 : 0 ≤ (j : Int) ∧ (j : Int) < (n : Int) := by omega
      have HTr := lh (HT.out.below (Kr.out.mono (Nat.le_refl _)))
      have PTr := lh (PT.out.below Kr.out PT.out.lt)
      have PKr := lh (PK.out.below Kr.out PK.out.lt)
      have CBr := lh (CB.out.below Kr.out CB.out.lt)
      have CMj := lh (CM.out j)
      obtain ⟨q1, q2⟩ := HC.out j (by rw [← HN.out]; exact hlt)
      have HS := lh (any_take_snoc q L j (by rw [← HN.out]; exact hlt))
      have HY := lh (any_of_take q L j (by rw [← HN.out]; exact hlt))
      generalize L.getD j (0, 0) = x at *
      have L1 := lh (load_pl CBr.out x q1 q2)
      clear q1 q2 CM
      go_wp2_with ((with_reducible refine wpList_load_want (op := ⟨some 15, .load 51 (.tmp 14), _, _, _, _⟩) ?wg1 51 (.tmp 14) ?wo1 ⟨g, j * 2, none⟩ ?wx1 (.agg (pcP x)) L1.out ?_); (case wg1 => rfl); (case wo1 => rfl); (case wx1 => rfl))
      refine (CMj.out wr HTr.out PTr.out PKr.out).mono ?_
      rintro e V ⟨rfl, hy⟩
      replace Kr := lh (Kr.out.trans (hy.mono Kr.out.size))
      clear hy CMj HTr PTr PKr CBr L1
      cases hq : q x with
      | true =>
        have HY2 := lh (HY.out hq)
        clear HY HS hq
        go_wp2
        go_ret
        exact ⟨⟨(j : Int), rfl, by rw [HY2.out]; exact decide_eq_true (by omega)⟩, Kr.out⟩
      | false =>
        have HS2 : Hid ((L.take (j + 1)).any q = false) := by show _ = _; rw [HS.out, HA.out, hq]; rfl
        clear HY HS hq HA
        go_wp2
        go_roundw
        case rel => exact ⟨j + 1, hlt, by go_num, HS2, Kr⟩
        case measure => simp [RowKit.intOf]; omega
    · obtain rfl : j = n := by omega
      have d8 : decide (((j : Nat) : Int) < (j : Int)) = false := decide_eq_false (by omega)
      have d9 : decide (j < j) = false := decide_eq_false (by omega)
      go_wp2
      go_ret
      exact ⟨⟨-1, rfl, by have := HA.out; rw [HN.out, List.take_length] at this; rw [this]; rfl⟩, Kr.out⟩
set_option maxRecDepth 100000 in
set_option maxHeartbeats 4000000 in
theorem contains_any (tn fn B : Nat) (cf : Cf) (c : Nat → Option Se) (hc : cf.Fit) (hok : okC cf = true) (k : Fl) (hk : k.Fit) (v : Value) (L : List Pl) (hL : ∀ i, smP (L.getD i (0, 0))) (hl : L.length ≤ 1000) (pt pk : Nat) (w : World) (h : TS tn fn B cf c w) (ht : Boxed w pt 31 (.pointer (some ⟨tn, 0, none⟩))) (hb : Blk w pk 42 k.cs) (hr : RdP w v L) :
    Calls Try.prog 65 #[v, .func (.func 66) #[] #[.pointer (some ⟨pt, 0, none⟩), .pointer (some ⟨pk, 0, none⟩)]] w fun e w' => e = .returned (.bool (L.any (mtF (plL cf k)))) ∧ Below w.heap.size w w' := by
  have K := lh (Below.refl w.heap.size w)
  have CI := lh (index_any tn fn B cf c hc hok k hk v L hL hl pt pk w h ht hb hr)
  clear h ht hb hr hL hl hk hc hok
  go_enter Try.func65, Try.ntmps65
  go_wp2_with fail
  refine CI.out.mono ?_
  rintro e V ⟨⟨r, rfl, he⟩, hy⟩
  replace K := lh hy
  clear hy CI
  obtain ⟨b, hbq⟩ : ∃ b, b = decide (r ≥ 0) := ⟨_, rfl⟩
  have d1 : decide (r ≥ 0) = b := hbq.symm
  have d2 : decide (0 ≤ r) = b := hbq.symm
  have HE := lh (hbq.trans he)
  clear he hbq
  go_wp2
  go_ret
  exact ⟨by rw [HE.out]; rfl, K.out⟩
set_option maxRecDepth 100000 in
set_option maxHeartbeats 4000000 in
theorem meets_any (tn fn B : Nat) (cf : Cf) (c : Nat → Option Se) (hc : cf.Fit) (hok : okC cf = true) (k : Fl) (hk : k.Fit) (v : Value) (L : List Pl) (hL : ∀ i, smP (L.getD i (0, 0))) (hl : L.length ≤ 1000) (w : World) (h : TS tn fn B cf c w) (hr : RdP w v L) :
    Calls Try.prog 42 #[.pointer (some ⟨tn, 0, none⟩), .agg k.cs, v] w fun e w' => e = .returned (.bool (L.any (mtF (plL cf k)))) ∧ Below w.heap.size w w' := by
  have K := lh (Below.refl w.heap.size w)
  have HT := lh h
  have HR := lh hr
  have CC := lh (fun pt pk W h1 h2 h3 h4 => contains_any tn fn B cf c hc hok k hk v L hL hl pt pk W h1 h2 h3 h4)
  have IK := lh (fl_ik k hk)
  generalize L.any (mtF (plL cf k)) = q at *
  generalize k.cs = kc at *
  clear h hr hL hl hk hc hok
  go_enter Try.func42, Try.ntmps42
  have hal := (Below.refl w.heap.size w).alloc (Nat.le_refl _) (.cells #[.pointer (some ⟨tn, 0, none⟩)] 31)
  replace K := lh (K.out.trans (hal.mono K.out.size))
  replace HT := lh (HT.out.below hal)
  replace HR := lh (HR.out.below hal)
  have BT := lh (Blk.new w 31 #[.pointer (some ⟨tn, 0, none⟩)])
  clear hal
  have hal := (Below.refl (w.alloc (.cells #[.pointer (some ⟨tn, 0, none⟩)] 31)).heap.size (w.alloc (.cells #[.pointer (some ⟨tn, 0, none⟩)] 31))).alloc (Nat.le_refl _) (.cells kc 42)
  replace K := lh (K.out.trans (hal.mono K.out.size))
  replace HT := lh (HT.out.below hal)
  replace HR := lh (HR.out.below hal)
  replace BT := lh (BT.out.below hal BT.out.lt)
  have BKq := Blk.new (w.alloc (.cells #[.pointer (some ⟨tn, 0, none⟩)] 31)) 42 kc
  simp only [World.size_alloc] at BKq
  have BK := lh BKq
  clear BKq
  clear hal
  go_wp2_with fail
  have hzV1 : Hid (((w.alloc (.cells #[.pointer (some ⟨tn, 0, none⟩)] 31)).alloc (.cells kc 42)).heap.size = w.heap.size + 1 + 1) := by show _ = _; simp only [World.size_alloc]
  generalize ((w.alloc (.cells #[.pointer (some ⟨tn, 0, none⟩)] 31)).alloc (.cells kc 42)) = V1 at *
  refine (CC.out _ _ V1 HT.out BT.out BK.out HR.out).mono ?_
  rintro e V2 ⟨rfl, hy⟩
  replace K := lh (K.out.trans (hy.mono K.out.size))
  replace HT := lh (HT.out.below hy)
  replace HR := lh (HR.out.below hy)
  replace BT := lh (BT.out.below hy BT.out.lt)
  replace BK := lh (BK.out.below hy BK.out.lt)
  clear hy
  go_wp2
  go_ret
  exact ⟨rfl, K.out⟩
end Go.Proofs.Ythldpnifodbheaa
namespace Go.Proofs.Ythldpnifodbheaa
open Go.RowKit Go.Shelf
attribute [local go_sem] Oper.semAt_some
def GotC (b hi : Nat) (w0 : World) (l : List Pl) (W : World) : Prop :=
  (∃ v, Boxed W b 75 v ∧ W.ownsRow hi 51 2 v l.length (pcells l) ∧ True) ∧ hi ≤ W.heap.size ∧ Below b w0 W
theorem GotC.own (b hi X : Nat) (w0 : World) (h : b ≤ w0.heap.size) (hX : b ≤ X) : OwnFrom X (GotC b hi w0) :=
  OwnFrom.and (Own.from (holdsRow_own hi b 75 51 2 (fun l : List Pl => l.length) (fun l => pcells l) (fun _ _ => True)) _)
    (OwnFrom.and (fun _ _ _ _ hs hg _ => Nat.le_trans hs hg.size) (ownFrom_below h hX))
theorem info51 : (Try.prog.info? 51).map (fun i => (i.zero, i.size, i.bytes)) = some (some (.agg #[.int .i64 0, .int .i64 0]), 2, 16) := by kernel_rfl
set_option maxRecDepth 100000 in
set_option maxHeartbeats 4000000 in
theorem appseq_any (gI fn : Nat) (L : List Pl) (kc fc : Array Value) (hi42 : (Try.prog.info? 42).map (·.size) = some kc.size) (hl4 : L.length ≤ 4) (w : World)
    (CP : ∀ (s : Nat) (w : World), Blk w fn 110 fc → Calls Try.prog 63 #[.pointer (some ⟨fn, 0, none⟩), .agg kc, .int .i64 (s : Int)] w fun e w' => e = .returned (.tuple #[.agg #[.int .i64 ((L.getD s (0, 0)).1 : Int), .int .i64 ((L.getD s (0, 0)).2 : Int)], .bool (decide (s < L.length))]) ∧ Below w.heap.size w w')
    (hF : Blk w fn 110 fc) (h1 : Boxed w gI 68 (.pointer (some ⟨fn, 0, none⟩))) (h2 : Blk w (gI + 1) 42 kc) :
    Calls Try.prog 61 #[.slice none 0 0, .func (.func 62) #[] #[.pointer (some ⟨gI, 0, none⟩), .pointer (some ⟨gI + 1, 0, none⟩)]] w fun e w' => ∃ v, e = .returned v ∧ w'.ownsRow w.heap.size 51 2 v L.length (pcells L) ∧ Below w.heap.size w w' := by
  obtain ⟨i0, hi, hz0, hz1, hz2⟩ := info_parts info51
  refine (callsIn_wide (n := 3)).1 ?_
  refine callsIn_of_wp_marks Try.func61 rfl trivial ?_ rfl
  simp only [Try.ntmps61, List.size_toArray, List.length_cons, List.length_nil, Nat.reduceAdd, Nat.reduceSub, Array.replicate_succ, Array.replicate_zero, List.push_toArray, List.append_toArray, List.nil_append, List.cons_append]
  obtain ⟨W, hW⟩ : ∃ W, W = w.alloc (.cells #[.slice none 0 0] 75) := ⟨_, rfl⟩
  have hb3 : Below w.heap.size w W := hW ▸ (Below.refl _ w).alloc (Nat.le_refl _) _
  have x2 : Boxed W w.heap.size 75 (.slice none 0 0) := hW ▸ Boxed.new w 75 (.slice none 0 0)
  have hWs : W.heap.size = w.heap.size + 1 := by rw [hW]; simp
  have HW := lh hW
  have hg1 := h1.lt
  have hg2 := h2.lt
  have hg3 := hF.lt
  have FW : Blk W fn 110 fc := hF.below hb3 hg3
  have h1W : Boxed W gI 68 (.pointer (some ⟨fn, 0, none⟩)) := (hb3.block _ hg1).trans h1
  have h2W : Blk W (gI + 1) 42 kc := h2.below hb3 hg2
  clear hW
  have hql := eql_fnP
  gi_wp2_with fail
  rw [← HW.out]
  clear HW
  have g0 : GotC w.heap.size W.heap.size w [] W := ⟨⟨_, x2, World.ownsRow_nil _ _ _ _, trivial⟩, Nat.le_refl _, hb3⟩
  refine name_act fun act hact => ?_
  refine wpIn_rangeFunc_ownH (a := act) rfl (by omega) (gf := 62) (lb := #[.pointer (some ⟨gI, 0, none⟩), .pointer (some ⟨gI + 1, 0, none⟩)]) (by rw [hact]; rfl) trivial (enters_of Try.func62 (by kernel_rfl) rfl)
    (itp_stops 2 (by omega) gI (gI + 1) fn L kc fc hi42 hl4 W CP h1W h2W FW) (fun h k => Kept.trans h k) (kept_b (fun k hk => by rcases hk with rfl | rfl | rfl <;> omega)) (Below.refl _ _) (fun _ => rfl)
    (GotC w.heap.size W.heap.size w)
    (fun _ _ _ => False)
    (GotC.own _ _ _ _ (Nat.le_refl _) (by omega))
    (fun _ _ _ _ _ hs _ _ => hs)
    g0
    (fun x a' W' => ∃ bp, W.heap.size ≤ bp ∧ Blk W' bp 51 (pcP x) ∧ a' = { tmps := (act.tmps.setIfInBounds 7 (.agg (pcP x))).setIfInBounds 5 (.pointer (some ⟨bp, 0, none⟩)), defers := [] })
    (fun x a' _ A' B' row hs hg hr => by
      obtain ⟨bp, e1, e2, e3⟩ := hs
      exact ⟨bp, e1, blk_own _ _ bp _ () A' B' row e2 hg hr, e3⟩)
    ?assign ?body ?done ?stop
  case assign =>
    intro l pre x W' KK hI hK
    have hsz := hI.2.1
    have HI := lh (GotC.own w.heap.size W.heap.size W.heap.size w (Nat.le_refl _) (by omega))
    have HII := lh hI
    subst hact
    clear CP hql g0 hF h1 h2 FW h1W h2W x2 hI
    unfold pcP at hK ⊢
    gi_wp2
    exact hK _ _ ((KeepsOthers.alloc _ _).from _) (Kept.below ((Below.refl _ W').alloc (Nat.le_refl _) _) (fun k hk => by rcases hk with rfl | rfl | rfl <;> omega)) (HI.out.alloc _ HII.out) ⟨W'.heap.size, hsz, Blk.new _ _ _, rfl⟩
  case body =>
    rintro l pre x a' W' hwl hrec ⟨⟨v1, bx1, r1, _⟩, hhi, hB⟩ ⟨bp, hbp, hbb, rfl⟩ hlt
    subst hact
    simp only [tS1, tS2, tS3]
    have hpl : pre.length ≤ 4 := by omega
    have HRec := lh hrec
    clear CP hql g0 hF h1 h2 FW h1W h2W x2 hrec
    obtain ⟨a1, k1, rfl⟩ := row_shape r1
    have c1 := bx1.cell
    have p0 : W'.cell? ⟨bp, 0, none⟩ = some (.int .i64 (x.1 : Int)) := hbb.cell 0
    have p1 : W'.cell? ⟨bp, 1, none⟩ = some (.int .i64 (x.2 : Int)) := hbb.cell 1
    have HLt := lh hlt
    clear hlt
    gi_wp2_with (gi_at_builtin; refine wpListIn_append_own _ rfl _ _ 75 rfl W.heap.size 51 i0 _ 2 16 Try.underlying75 hi hz0 hz1 hz2 rfl (by decide) _ _ _ rfl (r1.alloc _) ⟨W'.heap.size, 0, none⟩ 1 1 [.int .i64 (x.1 : Int), .int .i64 (x.2 : Int)] rfl rfl (cell_two_newP _ _ _ _) (one_twoP _ _) (by unfold maxLen; omega) (by omega) (by rw [World.size_alloc]; omega) ?_; intro v' w1 hown' hgrow _; obtain ⟨g', cap', rfl⟩ := ownsRow_succ hown'; obtain ⟨hv1, hv2, hr2, hk2, hm2, hb2⟩ := box_appP bx1 (by decide) r1 hhi (Nat.le_refl w.heap.size) (by omega) hown' hgrow; have hc1 := hv1.cell; have hf1 := hv1.frozen)
    exact ⟨hk2.from _, ⟨hm2.1, fun q hq => hm2.2 q (by rcases hq with rfl | rfl | rfl <;> omega)⟩, ⟨⟨_, hv2, by rw [List.length_append, pcells_append]; exact hr2, trivial⟩, Nat.le_trans hhi hk2.size, hB.trans (hb2.mono (Nat.le_refl _))⟩⟩
  case done =>
    rintro D ys Wn hD hys ⟨⟨v1, bx1, r1, _⟩, hhi, hB⟩ hK
    subst hys
    subst hact
    have c1 := bx1.cell
    have HR1 := lh r1
    clear r1 CP g0 hF h1 h2 FW h1W h2W x2 hql
    gi_wp2
    refine ⟨by simp, .inl ⟨_, _, rfl, run_takeDeferred hK, ?_⟩⟩
    refine ⟨_, results_tmp rfl _ _ _, v1, rfl, ?_, hB.trans (belowK_b (w := w) (Nat.le_refl _) Wn D _ _ (by omega) hK rfl rfl)⟩
    exact own_low2 (by omega) (ownsRow_putObj HR1.out _ hK rfl)
  case stop =>
    rintro D cd l Wn hD hl hf hK
    exact hf.elim
set_option maxRecDepth 100000 in
set_option maxHeartbeats 4000000 in
theorem collect_any (gI fn : Nat) (L : List Pl) (kc fc : Array Value) (hi42 : (Try.prog.info? 42).map (·.size) = some kc.size) (hl4 : L.length ≤ 4) (w : World)
    (CP : ∀ (s : Nat) (w : World), Blk w fn 110 fc → Calls Try.prog 63 #[.pointer (some ⟨fn, 0, none⟩), .agg kc, .int .i64 (s : Int)] w fun e w' => e = .returned (.tuple #[.agg #[.int .i64 ((L.getD s (0, 0)).1 : Int), .int .i64 ((L.getD s (0, 0)).2 : Int)], .bool (decide (s < L.length))]) ∧ Below w.heap.size w w')
    (hF : Blk w fn 110 fc) (h1 : Boxed w gI 68 (.pointer (some ⟨fn, 0, none⟩))) (h2 : Blk w (gI + 1) 42 kc) :
    Calls Try.prog 39 #[.func (.func 62) #[] #[.pointer (some ⟨gI, 0, none⟩), .pointer (some ⟨gI + 1, 0, none⟩)]] w fun e w' => ∃ v, e = .returned v ∧ w'.ownsRow w.heap.size 51 2 v L.length (pcells L) ∧ Below w.heap.size w w' := by
  have CA := lh (appseq_any gI fn L kc fc hi42 hl4 w CP hF h1 h2)
  clear CP hF h1 h2
  go_enter Try.func39, Try.ntmps39
  go_wp2_with fail
  refine CA.out.mono ?_
  rintro e V ⟨v, rfl, h3, h4⟩
  have H3 := lh h3
  have H4 := lh h4
  clear h3 h4 CA
  go_wp2
  go_ret
  exact ⟨_, rfl, H3.out, H4.out⟩
end Go.Proofs.Ythldpnifodbheaa
namespace Go.Proofs.Ythldpnifodbheaa
open Go.RowKit Go.Lib
theorem RdP.shape {W : World} {v : Value} {L : List Pl} (h : RdP W v L) : ∃ g cap, v = .slice (some ⟨g, 0, none⟩) L.length cap := by
  obtain ⟨g, cap, cur, e, -, -⟩ := h
  exact ⟨g, cap, e⟩
theorem Blk.ne_ty {W : World} {g g' : Nat} {t t' : TypeId} {cs cs' : Array Value} (h : Blk W g t cs) (h' : Blk W g' t' cs') (ht : t ≠ t') : g ≠ g' := fun e => by
  subst e
  have h2 := (show W.heap[g]? = some (.cells cs t (0, 0)) from h).symm.trans (show W.heap[g]? = some (.cells cs' t' (0, 0)) from h')
  cases h2
  exact ht rfl
theorem RdP.far {W : World} {v : Value} {L : List Pl} (h : RdP W v L) {p : Addr} {t : TypeId} {cs : Array Value} (ht : t ≠ 51) (hb : Blk W p.block t cs) (u : Value) : RdP (W.setCell p u) v L := by
  obtain ⟨g, cap, cur, e, hB, hc⟩ := h
  refine ⟨g, cap, cur, e, hB.far (fun e2 => ht ?_) u, hc⟩
  subst e2
  have h2 := (show W.heap[p.block]? = some (.cells cs t (0, 0)) from hb).symm.trans (show W.heap[p.block]? = some (.cells cur 51 (0, 0)) from hB)
  cases h2
  rfl
def twB (cf : Cf) (k : Fl) (v : Int) (s : Se) : Bool := !decide (s.k = k) && (hitsB s (dgN cf k) v && (plL cf k).any (mtF (plL cf s.k)))
def twP (b : Option Fl) (s : Se) : Bool := match b with | none => true | some l => decide (cmpN (bK s.k) (bK l) < 0)
def twS (cf : Cf) (k : Fl) (v : Int) (b : Option Fl) (s : Se) : Option Fl := if twB cf k v s && twP b s then some s.k else b
def twF (cf : Cf) (k : Fl) (v : Int) (l : List (Nat × Se)) : Option Fl := l.foldl (fun b x => twS cf k v b x.2) none
theorem twF_snoc (cf : Cf) (k : Fl) (v : Int) (l : List (Nat × Se)) (x : Nat × Se) : twF cf k v (l ++ [x]) = twS cf k v (twF cf k v l) x.2 := by
  unfold twF; rw [List.foldl_append]; rfl
theorem twS_fit (cf : Cf) (k : Fl) (v : Int) (b : Option Fl) (s : Se) (h : ∀ l, b = some l → l.Fit) : ∀ l, twS cf k v b s = some l → l.Fit := by
  intro l hl
  unfold twS at hl
  split at hl
  · cases hl; exact s.fit
  · exact h l hl
def tkC : Option Fl → Array Value | none => k0.cs | some l => l.cs
theorem tkC_size (b : Option Fl) (h : ∀ l, b = some l → l.Fit) : (tkC b).size = 37 := by
  cases b with
  | none => exact k0.cs_size k0_fit
  | some l => exact l.cs_size (h l rfl)
theorem tkC_all (b : Option Fl) : (tkC b).all (·.oneCell') = true := by cases b <;> exact Fl.cs_all _
theorem ownFrom_apart {β : Type} {B n X : Nat} {w0 : World} (hX : w0.heap.size ≤ X) : OwnFrom X (fun (_ : β) W => Apart B n w0 W) := fun _ A C row hs hg hr =>
  ⟨hg.os.trans hs.os, hg.tape.trans hs.tape, hg.output.trans hs.output, Nat.le_trans hs.size hg.size, fun k hk hb => (hg.block k (Nat.lt_of_lt_of_le hk hs.size) (fun e => by have := (hr k e.symm).1; omega)).trans (hs.block k hk hb)⟩
theorem Apart.ts {n B tn fn b : Nat} {cf : Cf} {w w' : World} {c : Nat → Option Se} (h : Apart B n w w') (ht : TS tn fn b cf c w) (hl : tn < B) : TS tn fn b cf c w' :=
  ht.kept fun k hk => h.block k (by have := ht.lt; omega) (.inl (by omega))
theorem Kept.apart {S : Nat → Prop} {B n : Nat} {A C : World} (h : Apart B n A C) (hS : ∀ k, S k → k < A.heap.size ∧ (k < B ∨ B + n ≤ k)) : Kept S A C := ⟨h.size, fun k hk => h.block k (hS k hk).1 (hS k hk).2⟩
theorem Apart.of_store {g B n : Nat} {A C : World} (hF : ∀ k, k ≠ g → C.heap[k]? = A.heap[k]?) (hB : ∀ b, b ≤ g → Below b A C) (h1 : B ≤ g) (h2 : g < B + n) : Apart B n A C :=
  ⟨(hB 0 (Nat.zero_le _)).os, (hB 0 (Nat.zero_le _)).tape, (hB 0 (Nat.zero_le _)).output, (hB 0 (Nat.zero_le _)).size, fun k _ h => hF k (by omega)⟩
theorem wpListIn_round_blk_store {l n : Nat} {P : Program} {w : World} {g : Nat} {t : TypeId} {cs : Array Value} {ops : Array Oper} {rest : List Oper} {op : Oper} {a : Act} {Q : Exit → Act → World → Prop} (hgd : op.guard = none) (ty : TypeId) (x y : Operand) (ho : op.op = .store ty x y)
    (vs : Array Value) (hx : a.eval x = .pointer (some ⟨g, 0, none⟩)) (hy : a.eval y = .agg vs) (hc : Blk w g t cs) (hs : vs.size = cs.size)
    (hi : (P.info? ty).map (·.size) = some vs.size) (h1 : vs.all (·.oneCell') = true)
    (h : ∀ w', Blk w' g t vs → (∀ k, k ≠ g → w'.heap[k]? = w.heap[k]?) → (∀ B, B ≤ g → Below B w w') → wpListIn (Fence.wide.inRound l) n P ops Q rest (a.put op.dst undef) w') : wpListIn (Fence.wide.inRound l) n P ops Q (op :: rest) a w :=
  wpListIn_plain hgd fun _ hK => Oper.wp_round (by simp [ho]) (wp_blk_store ty x y ho vs hx hy hc hs hi h1 fun w' a b c => hK _ _ (h w' a b c))
end Go.Proofs.Ythldpnifodbheaa
