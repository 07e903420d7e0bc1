/- Texts that the walks of this seat lean on, put together. -/
import Derived.Deep.WholeRow
import Derived.Deep.Cut
import Derived.Deep.CutRange
import Derived.Laws.CopyOwn
import Derived.BigQuiet
import Derived.Deep.QuietTactic
import Derived.Shelf.Abstract
import Derived.Shelf.RegionOpen
import Derived.LoopIn
import Derived.BigFrame
import Derived.RangeFuncBound
import Derived.RangeFuncBox
import Derived.RangeFuncCalls
import Derived.RangeFuncLeaves
import Derived.RangeFuncNested
import Derived.RangeFuncRecord
import Derived.Deep.CutBlock
import Derived.Deep.DeepCutAuto
import Derived.LoopTactic
import Derived.Handy
import Derived.Test.YthldpnifodbheaaTk
import Derived.Test.YthldpnifodbheaaTl
import Derived.Test.YthldpnifodbheaaM33
namespace Go.Proofs.Ythldpnifodbheaa
open Go.RowKit Go.Shelf
attribute [local go_sem] Oper.semAt_some
theorem eql_fn2 (f : Nat) (x y : Array Value) (w : World) : (binOp .eql 99 (.func (.func f) x y) .nilFunc).run Try.prog w = .ok (.bool false) w := by kernel_rfl
set_option maxRecDepth 100000 in
set_option maxHeartbeats 4000000 in
theorem twin_any (tn fn B : Nat) (cf : Cf) (c : Nat → Option Se) (hc : cf.Fit) (hok : okC cf = true) (k : Fl) (hk : k.Fit) (hv : vK k = true) (v : Int) (w : World) (h : TS tn fn B cf c w) :
    Calls Try.prog 20 #[.pointer (some ⟨tn, 0, none⟩), .agg k.cs, .int .i64 v] w fun e w' => e = .returned (.tuple #[.agg (tkC (twF cf k v (itF c 0 (cf.st.toNat * cf.sz.toNat)))), .bool (twF cf k v (itF c 0 (cf.st.toNat * cf.sz.toNat))).isSome]) ∧ Below w.heap.size w w' := by
  have CD := lh (fun W h => digest_all cf hc hok k hk fn W h)
  have hl4 := plL_le cf k hok
  have hl0 : 0 < (plL cf k).length := by rw [plL_len cf k hv]; have := okC_st hok; omega
  have CPL := lh (fun W => places_any (some ⟨fn, 0, none⟩) k.cs W)
  have hi42 := fl_ik k hk
  have CP := lh (fun s W (h : Blk W fn 110 (famC cf)) => place_any cf hc hok k hk fn s W h)
  have CO := lh (fun gI W h1 h2 h3 => collect_any gI fn (plL cf k) k.cs (famC cf) hi42 hl4 W CP.out h1 h2 h3)
  have CM := lh (fun (s : Se) v W h1 h2 => meets_any tn fn B cf c hc hok s.k s.fit v (plL cf k) (plL_sm cf hok k) (by omega) W h1 h2)
  have CH := lh (fun (s : Se) W => hits_any s (dgN cf k) v W)
  have CK := lh (fun (a b : Fl) ha hb W => kcmp_any a b ha hb W)
  have CA := lh (fun W => allT_fn (some ⟨B + 1, 0, none⟩) W)
  have EQ : Hid (∀ (s : Se) W, (Op.equalIn 10000 42 (.agg s.k.cs) (.agg k.cs)).run Try.prog W = .ok (decide (s.k = k)) W) := by
    intro s W
    by_cases h : s.k = k
    · rw [decide_eq_true h, h]; exact eq_fl_yes k hk W
    · rw [decide_eq_false h]; exact eq_fl_no s.k k s.fit hk h W
  have CT : Hid (∀ (b : Option Fl) (s : Se), twS cf k v b s = if (!decide (s.k = k) && (hitsB s (dgN cf k) v && (plL cf k).any (mtF (plL cf s.k)))) && twP b s then some s.k else b) := fun b s => rfl
  have TWN := lh (twF_snoc cf k v)
  have TFT := lh (twS_fit cf k v)
  obtain ⟨tw, htw0⟩ : ∃ f, f = twF cf k v := ⟨_, rfl⟩
  have T00 : Hid (tw [] = none) := by rw [htw0]; rfl
  rw [← htw0] at TWN ⊢
  obtain ⟨ts, hts⟩ : ∃ f, f = twS cf k v := ⟨_, rfl⟩
  rw [← hts] at CT TFT
  simp only [← hts] at TWN
  clear htw0 hts
  have K := lh (Below.refl w.heap.size w)
  have HT := lh h
  have TB := lh h.T
  have FB := lh h.F
  have htw := h.lt
  have hft : fn < tn := by have := h.hF; have := h.hT; omega
  have hbt : B + 2 + cf.st.toNat ≤ tn := h.hT
  obtain ⟨T0', T1', -⟩ := tbC_get fn B cf.ev
  have T0 := lh T0'
  have T1 := lh T1'
  have hqt := eqt_some ⟨tn, 0, none⟩
  generalize plL cf k = L at *
  generalize dgN cf k = dg at *
  generalize tbC fn B cf.ev = tc at *
  generalize famC cf = fc at *
  generalize k.cs = kc at *
  have IK := lh hi42
  have ZI : Hid ((Try.prog.info? 42).map (·.size) = some k0.cs.size) := fl_ik _ k0_fit
  clear T0' T1' h hi42 CP
  have hz42 := zero42
  refine (callsIn_wide (n := 3)).1 ?_
  refine callsIn_of_wp_marks Try.func20 rfl trivial ?_ rfl
  refine wpIn_wide.2 ?_
  simp only [Try.ntmps20, List.size_toArray, List.length_cons, List.length_nil, Nat.reduceAdd, Nat.reduceSub, Array.replicate_succ, Array.replicate_zero, List.push_toArray, List.append_toArray, List.nil_append, List.cons_append]
  have hal := (Below.refl w.heap.size w).alloc (Nat.le_refl _) (.cells #[.pointer (some ⟨tn, 0, none⟩)] 31)
  replace K := lh (K.out.trans (hal.mono K.out.size))
  replace HT := lh (HT.out.below hal)
  replace TB := lh (TB.out.below hal TB.out.lt)
  replace FB := lh (FB.out.below hal FB.out.lt)
  have BT := lh (Blk.new w 31 #[.pointer (some ⟨tn, 0, none⟩)])
  clear hal
  have hal := (Below.refl (w.alloc (.cells #[.pointer (some ⟨tn, 0, none⟩)] 31)).heap.size (w.alloc (.cells #[.pointer (some ⟨tn, 0, none⟩)] 31))).alloc (Nat.le_refl _) (.cells kc 42)
  replace K := lh (K.out.trans (hal.mono K.out.size))
  replace HT := lh (HT.out.below hal)
  replace TB := lh (TB.out.below hal TB.out.lt)
  replace FB := lh (FB.out.below hal FB.out.lt)
  replace BT := lh (BT.out.below hal BT.out.lt)
  have BKq := Blk.new (w.alloc (.cells #[.pointer (some ⟨tn, 0, none⟩)] 31)) 42 kc
  simp only [World.size_alloc] at BKq
  have BK := lh BKq
  clear BKq
  clear hal
  have hal := (Below.refl ((w.alloc (.cells #[.pointer (some ⟨tn, 0, none⟩)] 31)).alloc (.cells kc 42)).heap.size ((w.alloc (.cells #[.pointer (some ⟨tn, 0, none⟩)] 31)).alloc (.cells kc 42))).alloc (Nat.le_refl _) (.cells #[.int .i64 v] 3)
  replace K := lh (K.out.trans (hal.mono K.out.size))
  replace HT := lh (HT.out.below hal)
  replace TB := lh (TB.out.below hal TB.out.lt)
  replace FB := lh (FB.out.below hal FB.out.lt)
  replace BT := lh (BT.out.below hal BT.out.lt)
  replace BK := lh (BK.out.below hal BK.out.lt)
  have BVq := Blk.new ((w.alloc (.cells #[.pointer (some ⟨tn, 0, none⟩)] 31)).alloc (.cells kc 42)) 3 #[.int .i64 v]
  simp only [World.size_alloc] at BVq
  have BV := lh BVq
  clear BVq
  clear hal
  have hal := (Below.refl (((w.alloc (.cells #[.pointer (some ⟨tn, 0, none⟩)] 31)).alloc (.cells kc 42)).alloc (.cells #[.int .i64 v] 3)).heap.size (((w.alloc (.cells #[.pointer (some ⟨tn, 0, none⟩)] 31)).alloc (.cells kc 42)).alloc (.cells #[.int .i64 v] 3))).alloc (Nat.le_refl _) (.cells k0.cs 42)
  replace K := lh (K.out.trans (hal.mono K.out.size))
  replace HT := lh (HT.out.below hal)
  replace TB := lh (TB.out.below hal TB.out.lt)
  replace FB := lh (FB.out.below hal FB.out.lt)
  replace BT := lh (BT.out.below hal BT.out.lt)
  replace BK := lh (BK.out.below hal BK.out.lt)
  replace BV := lh (BV.out.below hal BV.out.lt)
  have RTq := Blk.new (((w.alloc (.cells #[.pointer (some ⟨tn, 0, none⟩)] 31)).alloc (.cells kc 42)).alloc (.cells #[.int .i64 v] 3)) 42 k0.cs
  simp only [World.size_alloc] at RTq
  have RT := lh RTq
  clear RTq
  clear hal
  go_upto_region 1 with fail
  have hzV1 : Hid (((((w.alloc (.cells #[.pointer (some ⟨tn, 0, none⟩)] 31)).alloc (.cells kc 42)).alloc (.cells #[.int .i64 v] 3)).alloc (.cells k0.cs 42)).heap.size = w.heap.size + 1 + 1 + 1 + 1) := by show _ = _; simp only [World.size_alloc]
  generalize ((((w.alloc (.cells #[.pointer (some ⟨tn, 0, none⟩)] 31)).alloc (.cells kc 42)).alloc (.cells #[.int .i64 v] 3)).alloc (.cells k0.cs 42)) = V1 at *
  clear hz42
  have c3 := BT.out.cell 0
  go_upto_region 3 with fail
  clear c3
  have hRT := RT.out.lt
  have hKw := K.out.size
  go_cut [8, 9] from 17 to 30 (fun v8 v9 wx => ∃ gD gL sv, v8 = .pointer (some ⟨gD, 0, none⟩) ∧ v9 = .pointer (some ⟨gL, 0, none⟩) ∧ Blk wx gD 40 #[.int .u16 (dg : Int)] ∧ Blk wx gL 75 #[sv] ∧ RdP wx sv L ∧ V1.heap.size ≤ gD ∧ V1.heap.size ≤ gL ∧ Below V1.heap.size V1 wx)
  case first => as_aux_lemma =>
    clear CM CH CK CA EQ CT TWN TFT T00 hqt
    have KB := lh (Below.refl V1.heap.size V1)
    have hBK := BK.out.lt
    have hTB := TB.out.lt
    have hFB := FB.out.lt
    refine wp_noP ?_
    refine wp_region_held (S := (fun w' : World => Blk w' (w.heap.size) 31 #[.pointer (some ⟨tn, 0, none⟩)] ∧ Blk w' (w.heap.size + 1) 42 kc ∧ Blk w' (tn) 80 tc)) (by kernel_rfl) ?_
    change wpAnyH _ _ _ _ _ _ _ _ V1.drew
    have hy : Below V1.heap.size V1 V1.drew := (Below.refl _ _).drew
    replace K := lh (K.out.trans (hy.mono K.out.size))
    replace TB := lh (TB.out.below hy TB.out.lt)
    replace FB := lh (FB.out.below hy FB.out.lt)
    replace BT := lh (BT.out.below hy BT.out.lt)
    replace BK := lh (BK.out.below hy BK.out.lt)
    replace BV := lh (BV.out.below hy BV.out.lt)
    replace KB := lh (KB.out.trans (hy.mono KB.out.size))
    clear hy
    generalize V1.drew = Y3h0 at *
    refine tkA 0 (?_) ?_ ⟨BT.out, BK.out, TB.out⟩ ?_
    rotate_left
    · (intro w1 hS; obtain ⟨hS0, hS1, hS2⟩ := hS; have q := hS0.cell 0; go_simp; try with_reducible rfl)
    simp only [Act.put, tS1, tS2, tS3]
    refine tkA 1 (?_) ?_ ⟨BT.out, BK.out, TB.out⟩ ?_
    rotate_left
    · (intro w1 hS; go_simp; try with_reducible rfl)
    simp only [Act.put, tS1, tS2, tS3]
    refine tkA 2 (?_) ?_ ⟨BT.out, BK.out, TB.out⟩ ?_
    rotate_left
    · (intro w1 hS; go_simp; try with_reducible rfl)
    simp only [Act.put, tS1, tS2, tS3]
    refine tkA 3 (?_) ?_ ⟨BT.out, BK.out, TB.out⟩ ?_
    rotate_left
    · (intro w1 hS; obtain ⟨hS0, hS1, hS2⟩ := hS; have q := (hS2.cell 0).trans T0.out; go_simp; try with_reducible rfl)
    simp only [Act.put, tS1, tS2, tS3]
    refine tkA 4 (.agg kc) ?_ ⟨BT.out, BK.out, TB.out⟩ ?_
    · (intro w1 hS; obtain ⟨hS0, hS1, hS2⟩ := hS; exact exec_load 42 (.tmp 4) rfl _ rfl _ (run_blk_load (P := Try.prog) 42 (w.heap.size + 1) _ hS1 Try.underlying42 rfl IK.out))
    simp only [Act.put, tS1, tS2, tS3]
    refine tkA 6 (?_) ?_ ⟨BT.out, BK.out, TB.out⟩ ?_
    rotate_left
    · (intro w1 hS; obtain ⟨hS0, hS1, hS2⟩ := hS; have q := hS0.cell 0; go_simp; try with_reducible rfl)
    simp only [Act.put, tS1, tS2, tS3]
    refine tkA 7 (?_) ?_ ⟨BT.out, BK.out, TB.out⟩ ?_
    rotate_left
    · (intro w1 hS; go_simp; try with_reducible rfl)
    simp only [Act.put, tS1, tS2, tS3]
    refine tkA 8 (?_) ?_ ⟨BT.out, BK.out, TB.out⟩ ?_
    rotate_left
    · (intro w1 hS; go_simp; try with_reducible rfl)
    simp only [Act.put, tS1, tS2, tS3]
    refine tkA 9 (?_) ?_ ⟨BT.out, BK.out, TB.out⟩ ?_
    rotate_left
    · (intro w1 hS; obtain ⟨hS0, hS1, hS2⟩ := hS; have q := (hS2.cell 0).trans T0.out; go_simp; try with_reducible rfl)
    simp only [Act.put, tS1, tS2, tS3]
    refine tkA 10 (.agg kc) ?_ ⟨BT.out, BK.out, TB.out⟩ ?_
    · (intro w1 hS; obtain ⟨hS0, hS1, hS2⟩ := hS; exact exec_load 42 (.tmp 4) rfl _ rfl _ (run_blk_load (P := Try.prog) 42 (w.heap.size + 1) _ hS1 Try.underlying42 rfl IK.out))
    simp only [Act.put, tS1, tS2, tS3]
    refine tkB3 5 13 14 (fun KK hK => ?_) (fun KK hK => ?_) (fun KK hK => ?_)
    · skip
      go_simp
      refine (CD.out Y3h0 FB.out).mono ?_
      rintro e Y3h1 ⟨rfl, hy⟩
      replace K := lh (K.out.trans (hy.mono K.out.size))
      replace TB := lh (TB.out.below hy TB.out.lt)
      replace FB := lh (FB.out.below hy FB.out.lt)
      replace BT := lh (BT.out.below hy BT.out.lt)
      replace BK := lh (BK.out.below hy BK.out.lt)
      replace BV := lh (BV.out.below hy BV.out.lt)
      replace KB := lh (KB.out.trans (hy.mono KB.out.size))
      clear hy
      refine hK.out _ _ ⟨BT.out, BK.out, TB.out⟩ (fun _ => ?_)
      clear hK KK
      try simp only [Act.put, tS1, tS2, tS3]
      refine tkB3 11 13 14 (fun KK hK => ?_) (fun KK hK => ?_) (fun KK hK => ?_)
      · skip
        obtain ⟨gI, hgI⟩ : ∃ g, g = Y3h1.heap.size := ⟨_, rfl⟩
        have hgI0 : V1.heap.size ≤ gI := by rw [hgI]; exact KB.out.size
        go_simp
        refine (CPL.out Y3h1).mono ?_
        rintro e Y3h2 ⟨rfl, h1, h2, hy⟩
        replace K := lh (K.out.trans (hy.mono K.out.size))
        replace TB := lh (TB.out.below hy TB.out.lt)
        replace FB := lh (FB.out.below hy FB.out.lt)
        replace BT := lh (BT.out.below hy BT.out.lt)
        replace BK := lh (BK.out.below hy BK.out.lt)
        replace BV := lh (BV.out.below hy BV.out.lt)
        replace KB := lh (KB.out.trans (hy.mono KB.out.size))
        clear hy
        rw [← hgI] at h1 h2 ⊢
        have PF := lh (show Blk _ gI 68 #[.pointer (some ⟨fn, 0, none⟩)] from h1)
        have PK := lh h2
        clear h1 h2 hgI
        refine hK.out _ _ ⟨BT.out, BK.out, TB.out⟩ (fun _ => ?_)
        clear hK KK
        try simp only [Act.put, tS1, tS2, tS3]
        refine tkB3 12 13 14 (fun KK hK => ?_) (fun KK hK => ?_) (fun KK hK => ?_)
        · skip
          go_simp
          refine (CO.out gI Y3h2 FB.out PF.out PK.out).mono ?_
          rintro e Y3h3 ⟨sv, rfl, hx, hy⟩
          replace K := lh (K.out.trans (hy.mono K.out.size))
          replace TB := lh (TB.out.below hy TB.out.lt)
          replace FB := lh (FB.out.below hy FB.out.lt)
          replace BT := lh (BT.out.below hy BT.out.lt)
          replace BK := lh (BK.out.below hy BK.out.lt)
          replace BV := lh (BV.out.below hy BV.out.lt)
          replace KB := lh (KB.out.trans (hy.mono KB.out.size))
          replace PF := lh (PF.out.below hy PF.out.lt)
          replace PK := lh (PK.out.below hy PK.out.lt)
          clear hy
          have RS := lh (RdP.of_own hx hl0)
          clear hx PF PK
          obtain ⟨sg, scap, hsv⟩ := RdP.shape RS.out
          subst hsv
          refine hK.out _ _ ⟨BT.out, BK.out, TB.out⟩ (fun _ => ?_)
          clear hK KK
          try simp only [Act.put, tS1, tS2, tS3]
          refine tkB 13 14 (fun KK hK => ?_) (fun KK hK => ?_)
          · skip
            go_simp
            have pb := Blk.new Y3h3 40 #[.int .u16 0]
            have hy := (Below.refl Y3h3.heap.size Y3h3).alloc (Nat.le_refl _) (.cells #[.int .u16 0] 40)
            obtain ⟨gD, hgD⟩ : ∃ g, g = Y3h3.heap.size := ⟨_, rfl⟩
            have hg0D : V1.heap.size ≤ gD := by rw [hgD]; exact KB.out.size
            replace K := lh (K.out.trans (hy.mono K.out.size))
            replace TB := lh (TB.out.below hy TB.out.lt)
            replace FB := lh (FB.out.below hy FB.out.lt)
            replace BT := lh (BT.out.below hy BT.out.lt)
            replace BK := lh (BK.out.below hy BK.out.lt)
            replace BV := lh (BV.out.below hy BV.out.lt)
            replace KB := lh (KB.out.trans (hy.mono KB.out.size))
            replace RS := lh (RS.out.below hy)
            rw [← hgD] at pb ⊢
            have D := lh pb
            clear pb hy hgD
            generalize Y3h3.alloc (.cells #[.int .u16 0] 40) = Y3h4 at *
            refine hK.out _ _ ⟨BT.out, BK.out, TB.out⟩ (fun _ => ?_)
            clear hK KK
            try simp only [Act.put, tS1, tS2, tS3]
            refine tkO 14 (fun KK hK => ?_)
            go_simp
            have pb := Blk.new Y3h4 75 #[.slice none 0 0]
            have hy := (Below.refl Y3h4.heap.size Y3h4).alloc (Nat.le_refl _) (.cells #[.slice none 0 0] 75)
            obtain ⟨gLB, hgLB⟩ : ∃ g, g = Y3h4.heap.size := ⟨_, rfl⟩
            have hg0LB : V1.heap.size ≤ gLB := by rw [hgLB]; exact KB.out.size
            replace K := lh (K.out.trans (hy.mono K.out.size))
            replace TB := lh (TB.out.below hy TB.out.lt)
            replace FB := lh (FB.out.below hy FB.out.lt)
            replace BT := lh (BT.out.below hy BT.out.lt)
            replace BK := lh (BK.out.below hy BK.out.lt)
            replace BV := lh (BV.out.below hy BV.out.lt)
            replace KB := lh (KB.out.trans (hy.mono KB.out.size))
            replace RS := lh (RS.out.below hy)
            replace D := lh (D.out.below hy D.out.lt)
            rw [← hgLB] at pb ⊢
            have LB := lh pb
            clear pb hy hgLB
            generalize Y3h4.alloc (.cells #[.slice none 0 0] 75) = Y3h5 at *
            refine hK.out _ _ ⟨BT.out, BK.out, TB.out⟩ (fun _ => ?_)
            clear hK KK
            try simp only [Act.put, tS1, tS2, tS3]
            have hPD : gD ≠ gLB := Blk.ne_ty D.out LB.out (by decide)
            refine tkO 15 (fun KK hK => ?_)
            have k1 : Y3h5.cell? ⟨gD, 0, none⟩ = some (.int .u16 0) := D.out.cell 0
            have k2 := D.out.frozen 0
            go_simp
            replace K := lh (K.out.setCell (p := ⟨gD, 0, none⟩) (by show _ ≤ gD; omega) (.int .u16 (dg : Int)))
            replace TB := lh (TB.out.far (p := ⟨gD, 0, none⟩) (by show _ ≠ gD; omega) (.int .u16 (dg : Int)))
            replace FB := lh (FB.out.far (p := ⟨gD, 0, none⟩) (by show _ ≠ gD; omega) (.int .u16 (dg : Int)))
            replace BT := lh (BT.out.far (p := ⟨gD, 0, none⟩) (by show _ ≠ gD; omega) (.int .u16 (dg : Int)))
            replace BK := lh (BK.out.far (p := ⟨gD, 0, none⟩) (by show _ ≠ gD; omega) (.int .u16 (dg : Int)))
            replace BV := lh (BV.out.far (p := ⟨gD, 0, none⟩) (by show _ ≠ gD; omega) (.int .u16 (dg : Int)))
            replace KB := lh (KB.out.setCell (p := ⟨gD, 0, none⟩) (by show _ ≤ gD; omega) (.int .u16 (dg : Int)))
            replace RS := lh (RS.out.far (p := ⟨gD, 0, none⟩) (by decide) D.out (.int .u16 (dg : Int)))
            replace LB := lh (LB.out.far (p := ⟨gD, 0, none⟩) (by show _ ≠ gD; omega) (.int .u16 (dg : Int)))
            replace D := lh (show Blk _ _ 40 #[.int .u16 (dg : Int)] from D.out.set_ 0 (.int .u16 (dg : Int)))
            clear k1 k2
            generalize Y3h5.setCell ⟨gD, 0, none⟩ (.int .u16 (dg : Int)) = Y3h6 at *
            refine hK.out _ _ ⟨BT.out, BK.out, TB.out⟩ (fun _ => ?_)
            clear hK KK
            try simp only [Act.put]
            refine tkO 16 (fun KK hK => ?_)
            have k1 : Y3h6.cell? ⟨gLB, 0, none⟩ = some (.slice none 0 0) := LB.out.cell 0
            have k2 := LB.out.frozen 0
            go_simp
            replace K := lh (K.out.setCell (p := ⟨gLB, 0, none⟩) (by show _ ≤ gLB; omega) ((.slice (some ⟨sg, 0, none⟩) L.length scap)))
            replace TB := lh (TB.out.far (p := ⟨gLB, 0, none⟩) (by show _ ≠ gLB; omega) ((.slice (some ⟨sg, 0, none⟩) L.length scap)))
            replace FB := lh (FB.out.far (p := ⟨gLB, 0, none⟩) (by show _ ≠ gLB; omega) ((.slice (some ⟨sg, 0, none⟩) L.length scap)))
            replace BT := lh (BT.out.far (p := ⟨gLB, 0, none⟩) (by show _ ≠ gLB; omega) ((.slice (some ⟨sg, 0, none⟩) L.length scap)))
            replace BK := lh (BK.out.far (p := ⟨gLB, 0, none⟩) (by show _ ≠ gLB; omega) ((.slice (some ⟨sg, 0, none⟩) L.length scap)))
            replace BV := lh (BV.out.far (p := ⟨gLB, 0, none⟩) (by show _ ≠ gLB; omega) ((.slice (some ⟨sg, 0, none⟩) L.length scap)))
            replace KB := lh (KB.out.setCell (p := ⟨gLB, 0, none⟩) (by show _ ≤ gLB; omega) ((.slice (some ⟨sg, 0, none⟩) L.length scap)))
            replace RS := lh (RS.out.far (p := ⟨gLB, 0, none⟩) (by decide) LB.out ((.slice (some ⟨sg, 0, none⟩) L.length scap)))
            replace D := lh (D.out.far (p := ⟨gLB, 0, none⟩) (by show _ ≠ gLB; omega) ((.slice (some ⟨sg, 0, none⟩) L.length scap)))
            replace LB := lh (show Blk _ _ 75 #[(.slice (some ⟨sg, 0, none⟩) L.length scap)] from LB.out.set_ 0 ((.slice (some ⟨sg, 0, none⟩) L.length scap)))
            clear k1 k2
            generalize Y3h6.setCell ⟨gLB, 0, none⟩ ((.slice (some ⟨sg, 0, none⟩) L.length scap)) = Y3h7 at *
            refine hK.out _ _ ⟨BT.out, BK.out, TB.out⟩ (fun _ => ?_)
            clear hK KK
            try simp only [Act.put]
            refine wpAnyH_done (by kernel_rfl) ?_ _
            simp only [noP]
            go_wp2
            go_meet
            exact ⟨gD, gLB, (.slice (some ⟨sg, 0, none⟩) L.length scap), rfl, rfl, D.out, LB.out, RS.out, hg0D, hg0LB, KB.out⟩
          · skip
            go_simp
            have pb := Blk.new Y3h3 75 #[.slice none 0 0]
            have hy := (Below.refl Y3h3.heap.size Y3h3).alloc (Nat.le_refl _) (.cells #[.slice none 0 0] 75)
            obtain ⟨gLB, hgLB⟩ : ∃ g, g = Y3h3.heap.size := ⟨_, rfl⟩
            have hg0LB : V1.heap.size ≤ gLB := by rw [hgLB]; exact KB.out.size
            replace K := lh (K.out.trans (hy.mono K.out.size))
            replace TB := lh (TB.out.below hy TB.out.lt)
            replace FB := lh (FB.out.below hy FB.out.lt)
            replace BT := lh (BT.out.below hy BT.out.lt)
            replace BK := lh (BK.out.below hy BK.out.lt)
            replace BV := lh (BV.out.below hy BV.out.lt)
            replace KB := lh (KB.out.trans (hy.mono KB.out.size))
            replace RS := lh (RS.out.below hy)
            rw [← hgLB] at pb ⊢
            have LB := lh pb
            clear pb hy hgLB
            generalize Y3h3.alloc (.cells #[.slice none 0 0] 75) = Y3h4 at *
            refine hK.out _ _ ⟨BT.out, BK.out, TB.out⟩ (fun _ => ?_)
            clear hK KK
            try simp only [Act.put, tS1, tS2, tS3]
            refine tkO 13 (fun KK hK => ?_)
            go_simp
            have pb := Blk.new Y3h4 40 #[.int .u16 0]
            have hy := (Below.refl Y3h4.heap.size Y3h4).alloc (Nat.le_refl _) (.cells #[.int .u16 0] 40)
            obtain ⟨gD, hgD⟩ : ∃ g, g = Y3h4.heap.size := ⟨_, rfl⟩
            have hg0D : V1.heap.size ≤ gD := by rw [hgD]; exact KB.out.size
            replace K := lh (K.out.trans (hy.mono K.out.size))
            replace TB := lh (TB.out.below hy TB.out.lt)
            replace FB := lh (FB.out.below hy FB.out.lt)
            replace BT := lh (BT.out.below hy BT.out.lt)
            replace BK := lh (BK.out.below hy BK.out.lt)
            replace BV := lh (BV.out.below hy BV.out.lt)
            replace KB := lh (KB.out.trans (hy.mono KB.out.size))
            replace RS := lh (RS.out.below hy)
            replace LB := lh (LB.out.below hy LB.out.lt)
            rw [← hgD] at pb ⊢
            have D := lh pb
            clear pb hy hgD
            generalize Y3h4.alloc (.cells #[.int .u16 0] 40) = Y3h5 at *
            refine hK.out _ _ ⟨BT.out, BK.out, TB.out⟩ (fun _ => ?_)
            clear hK KK
            try simp only [Act.put, tS1, tS2, tS3]
            have hPD : gD ≠ gLB := Blk.ne_ty D.out LB.out (by decide)
            refine tkO 15 (fun KK hK => ?_)
            have k1 : Y3h5.cell? ⟨gD, 0, none⟩ = some (.int .u16 0) := D.out.cell 0
            have k2 := D.out.frozen 0
            go_simp
            replace K := lh (K.out.setCell (p := ⟨gD, 0, none⟩) (by show _ ≤ gD; omega) (.int .u16 (dg : Int)))
            replace TB := lh (TB.out.far (p := ⟨gD, 0, none⟩) (by show _ ≠ gD; omega) (.int .u16 (dg : Int)))
            replace FB := lh (FB.out.far (p := ⟨gD, 0, none⟩) (by show _ ≠ gD; omega) (.int .u16 (dg : Int)))
            replace BT := lh (BT.out.far (p := ⟨gD, 0, none⟩) (by show _ ≠ gD; omega) (.int .u16 (dg : Int)))
            replace BK := lh (BK.out.far (p := ⟨gD, 0, none⟩) (by show _ ≠ gD; omega) (.int .u16 (dg : Int)))
            replace BV := lh (BV.out.far (p := ⟨gD, 0, none⟩) (by show _ ≠ gD; omega) (.int .u16 (dg : Int)))
            replace KB := lh (KB.out.setCell (p := ⟨gD, 0, none⟩) (by show _ ≤ gD; omega) (.int .u16 (dg : Int)))
            replace RS := lh (RS.out.far (p := ⟨gD, 0, none⟩) (by decide) D.out (.int .u16 (dg : Int)))
            replace LB := lh (LB.out.far (p := ⟨gD, 0, none⟩) (by show _ ≠ gD; omega) (.int .u16 (dg : Int)))
            replace D := lh (show Blk _ _ 40 #[.int .u16 (dg : Int)] from D.out.set_ 0 (.int .u16 (dg : Int)))
            clear k1 k2
            generalize Y3h5.setCell ⟨gD, 0, none⟩ (.int .u16 (dg : Int)) = Y3h6 at *
            refine hK.out _ _ ⟨BT.out, BK.out, TB.out⟩ (fun _ => ?_)
            clear hK KK
            try simp only [Act.put]
            refine tkO 16 (fun KK hK => ?_)
            have k1 : Y3h6.cell? ⟨gLB, 0, none⟩ = some (.slice none 0 0) := LB.out.cell 0
            have k2 := LB.out.frozen 0
            go_simp
            replace K := lh (K.out.setCell (p := ⟨gLB, 0, none⟩) (by show _ ≤ gLB; omega) ((.slice (some ⟨sg, 0, none⟩) L.length scap)))
            replace TB := lh (TB.out.far (p := ⟨gLB, 0, none⟩) (by show _ ≠ gLB; omega) ((.slice (some ⟨sg, 0, none⟩) L.length scap)))
            replace FB := lh (FB.out.far (p := ⟨gLB, 0, none⟩) (by show _ ≠ gLB; omega) ((.slice (some ⟨sg, 0, none⟩) L.length scap)))
            replace BT := lh (BT.out.far (p := ⟨gLB, 0, none⟩) (by show _ ≠ gLB; omega) ((.slice (some ⟨sg, 0, none⟩) L.length scap)))
            replace BK := lh (BK.out.far (p := ⟨gLB, 0, none⟩) (by show _ ≠ gLB; omega) ((.slice (some ⟨sg, 0, none⟩) L.length scap)))
            replace BV := lh (BV.out.far (p := ⟨gLB, 0, none⟩) (by show _ ≠ gLB; omega) ((.slice (some ⟨sg, 0, none⟩) L.length scap)))
            replace KB := lh (KB.out.setCell (p := ⟨gLB, 0, none⟩) (by show _ ≤ gLB; omega) ((.slice (some ⟨sg, 0, none⟩) L.length scap)))
            replace RS := lh (RS.out.far (p := ⟨gLB, 0, none⟩) (by decide) LB.out ((.slice (some ⟨sg, 0, none⟩) L.length scap)))
            replace D := lh (D.out.far (p := ⟨gLB, 0, none⟩) (by show _ ≠ gLB; omega) ((.slice (some ⟨sg, 0, none⟩) L.length scap)))
            replace LB := lh (show Blk _ _ 75 #[(.slice (some ⟨sg, 0, none⟩) L.length scap)] from LB.out.set_ 0 ((.slice (some ⟨sg, 0, none⟩) L.length scap)))
            clear k1 k2
            generalize Y3h6.setCell ⟨gLB, 0, none⟩ ((.slice (some ⟨sg, 0, none⟩) L.length scap)) = Y3h7 at *
            refine hK.out _ _ ⟨BT.out, BK.out, TB.out⟩ (fun _ => ?_)
            clear hK KK
            try simp only [Act.put]
            refine wpAnyH_done (by kernel_rfl) ?_ _
            simp only [noP]
            go_wp2
            go_meet
            exact ⟨gD, gLB, (.slice (some ⟨sg, 0, none⟩) L.length scap), rfl, rfl, D.out, LB.out, RS.out, hg0D, hg0LB, KB.out⟩
        · skip
          go_simp
          have pb := Blk.new Y3h2 40 #[.int .u16 0]
          have hy := (Below.refl Y3h2.heap.size Y3h2).alloc (Nat.le_refl _) (.cells #[.int .u16 0] 40)
          obtain ⟨gD, hgD⟩ : ∃ g, g = Y3h2.heap.size := ⟨_, rfl⟩
          have hg0D : V1.heap.size ≤ gD := by rw [hgD]; exact KB.out.size
          replace K := lh (K.out.trans (hy.mono K.out.size))
          replace TB := lh (TB.out.below hy TB.out.lt)
          replace FB := lh (FB.out.below hy FB.out.lt)
          replace BT := lh (BT.out.below hy BT.out.lt)
          replace BK := lh (BK.out.below hy BK.out.lt)
          replace BV := lh (BV.out.below hy BV.out.lt)
          replace KB := lh (KB.out.trans (hy.mono KB.out.size))
          replace PF := lh (PF.out.below hy PF.out.lt)
          replace PK := lh (PK.out.below hy PK.out.lt)
          rw [← hgD] at pb ⊢
          have D := lh pb
          clear pb hy hgD
          generalize Y3h2.alloc (.cells #[.int .u16 0] 40) = Y3h3 at *
          refine hK.out _ _ ⟨BT.out, BK.out, TB.out⟩ (fun _ => ?_)
          clear hK KK
          try simp only [Act.put, tS1, tS2, tS3]
          refine tkB 12 14 (fun KK hK => ?_) (fun KK hK => ?_)
          · skip
            go_simp
            refine (CO.out gI Y3h3 FB.out PF.out PK.out).mono ?_
            rintro e Y3h4 ⟨sv, rfl, hx, hy⟩
            replace K := lh (K.out.trans (hy.mono K.out.size))
            replace TB := lh (TB.out.below hy TB.out.lt)
            replace FB := lh (FB.out.below hy FB.out.lt)
            replace BT := lh (BT.out.below hy BT.out.lt)
            replace BK := lh (BK.out.below hy BK.out.lt)
            replace BV := lh (BV.out.below hy BV.out.lt)
            replace KB := lh (KB.out.trans (hy.mono KB.out.size))
            replace PF := lh (PF.out.below hy PF.out.lt)
            replace PK := lh (PK.out.below hy PK.out.lt)
            replace D := lh (D.out.below hy D.out.lt)
            clear hy
            have RS := lh (RdP.of_own hx hl0)
            clear hx PF PK
            obtain ⟨sg, scap, hsv⟩ := RdP.shape RS.out
            subst hsv
            refine hK.out _ _ ⟨BT.out, BK.out, TB.out⟩ (fun _ => ?_)
            clear hK KK
            try simp only [Act.put, tS1, tS2, tS3]
            refine tkO 14 (fun KK hK => ?_)
            go_simp
            have pb := Blk.new Y3h4 75 #[.slice none 0 0]
            have hy := (Below.refl Y3h4.heap.size Y3h4).alloc (Nat.le_refl _) (.cells #[.slice none 0 0] 75)
            obtain ⟨gLB, hgLB⟩ : ∃ g, g = Y3h4.heap.size := ⟨_, rfl⟩
            have hg0LB : V1.heap.size ≤ gLB := by rw [hgLB]; exact KB.out.size
            replace K := lh (K.out.trans (hy.mono K.out.size))
            replace TB := lh (TB.out.below hy TB.out.lt)
            replace FB := lh (FB.out.below hy FB.out.lt)
            replace BT := lh (BT.out.below hy BT.out.lt)
            replace BK := lh (BK.out.below hy BK.out.lt)
            replace BV := lh (BV.out.below hy BV.out.lt)
            replace KB := lh (KB.out.trans (hy.mono KB.out.size))
            replace D := lh (D.out.below hy D.out.lt)
            replace RS := lh (RS.out.below hy)
            rw [← hgLB] at pb ⊢
            have LB := lh pb
            clear pb hy hgLB
            generalize Y3h4.alloc (.cells #[.slice none 0 0] 75) = Y3h5 at *
            refine hK.out _ _ ⟨BT.out, BK.out, TB.out⟩ (fun _ => ?_)
            clear hK KK
            try simp only [Act.put, tS1, tS2, tS3]
            have hPD : gD ≠ gLB := Blk.ne_ty D.out LB.out (by decide)
            refine tkO 15 (fun KK hK => ?_)
            have k1 : Y3h5.cell? ⟨gD, 0, none⟩ = some (.int .u16 0) := D.out.cell 0
            have k2 := D.out.frozen 0
            go_simp
            replace K := lh (K.out.setCell (p := ⟨gD, 0, none⟩) (by show _ ≤ gD; omega) (.int .u16 (dg : Int)))
            replace TB := lh (TB.out.far (p := ⟨gD, 0, none⟩) (by show _ ≠ gD; omega) (.int .u16 (dg : Int)))
            replace FB := lh (FB.out.far (p := ⟨gD, 0, none⟩) (by show _ ≠ gD; omega) (.int .u16 (dg : Int)))
            replace BT := lh (BT.out.far (p := ⟨gD, 0, none⟩) (by show _ ≠ gD; omega) (.int .u16 (dg : Int)))
            replace BK := lh (BK.out.far (p := ⟨gD, 0, none⟩) (by show _ ≠ gD; omega) (.int .u16 (dg : Int)))
            replace BV := lh (BV.out.far (p := ⟨gD, 0, none⟩) (by show _ ≠ gD; omega) (.int .u16 (dg : Int)))
            replace KB := lh (KB.out.setCell (p := ⟨gD, 0, none⟩) (by show _ ≤ gD; omega) (.int .u16 (dg : Int)))
            replace RS := lh (RS.out.far (p := ⟨gD, 0, none⟩) (by decide) D.out (.int .u16 (dg : Int)))
            replace LB := lh (LB.out.far (p := ⟨gD, 0, none⟩) (by show _ ≠ gD; omega) (.int .u16 (dg : Int)))
            replace D := lh (show Blk _ _ 40 #[.int .u16 (dg : Int)] from D.out.set_ 0 (.int .u16 (dg : Int)))
            clear k1 k2
            generalize Y3h5.setCell ⟨gD, 0, none⟩ (.int .u16 (dg : Int)) = Y3h6 at *
            refine hK.out _ _ ⟨BT.out, BK.out, TB.out⟩ (fun _ => ?_)
            clear hK KK
            try simp only [Act.put]
            refine tkO 16 (fun KK hK => ?_)
            have k1 : Y3h6.cell? ⟨gLB, 0, none⟩ = some (.slice none 0 0) := LB.out.cell 0
            have k2 := LB.out.frozen 0
            go_simp
            replace K := lh (K.out.setCell (p := ⟨gLB, 0, none⟩) (by show _ ≤ gLB; omega) ((.slice (some ⟨sg, 0, none⟩) L.length scap)))
            replace TB := lh (TB.out.far (p := ⟨gLB, 0, none⟩) (by show _ ≠ gLB; omega) ((.slice (some ⟨sg, 0, none⟩) L.length scap)))
            replace FB := lh (FB.out.far (p := ⟨gLB, 0, none⟩) (by show _ ≠ gLB; omega) ((.slice (some ⟨sg, 0, none⟩) L.length scap)))
            replace BT := lh (BT.out.far (p := ⟨gLB, 0, none⟩) (by show _ ≠ gLB; omega) ((.slice (some ⟨sg, 0, none⟩) L.length scap)))
            replace BK := lh (BK.out.far (p := ⟨gLB, 0, none⟩) (by show _ ≠ gLB; omega) ((.slice (some ⟨sg, 0, none⟩) L.length scap)))
            replace BV := lh (BV.out.far (p := ⟨gLB, 0, none⟩) (by show _ ≠ gLB; omega) ((.slice (some ⟨sg, 0, none⟩) L.length scap)))
            replace KB := lh (KB.out.setCell (p := ⟨gLB, 0, none⟩) (by show _ ≤ gLB; omega) ((.slice (some ⟨sg, 0, none⟩) L.length scap)))
            replace D := lh (D.out.far (p := ⟨gLB, 0, none⟩) (by show _ ≠ gLB; omega) ((.slice (some ⟨sg, 0, none⟩) L.length scap)))
            replace RS := lh (RS.out.far (p := ⟨gLB, 0, none⟩) (by decide) LB.out ((.slice (some ⟨sg, 0, none⟩) L.length scap)))
            replace LB := lh (show Blk _ _ 75 #[(.slice (some ⟨sg, 0, none⟩) L.length scap)] from LB.out.set_ 0 ((.slice (some ⟨sg, 0, none⟩) L.length scap)))
            clear k1 k2
            generalize Y3h6.setCell ⟨gLB, 0, none⟩ ((.slice (some ⟨sg, 0, none⟩) L.length scap)) = Y3h7 at *
            refine hK.out _ _ ⟨BT.out, BK.out, TB.out⟩ (fun _ => ?_)
            clear hK KK
            try simp only [Act.put]
            refine wpAnyH_done (by kernel_rfl) ?_ _
            simp only [noP]
            go_wp2
            go_meet
            exact ⟨gD, gLB, (.slice (some ⟨sg, 0, none⟩) L.length scap), rfl, rfl, D.out, LB.out, RS.out, hg0D, hg0LB, KB.out⟩
          · skip
            go_simp
            have pb := Blk.new Y3h3 75 #[.slice none 0 0]
            have hy := (Below.refl Y3h3.heap.size Y3h3).alloc (Nat.le_refl _) (.cells #[.slice none 0 0] 75)
            obtain ⟨gLB, hgLB⟩ : ∃ g, g = Y3h3.heap.size := ⟨_, rfl⟩
            have hg0LB : V1.heap.size ≤ gLB := by rw [hgLB]; exact KB.out.size
            replace K := lh (K.out.trans (hy.mono K.out.size))
            replace TB := lh (TB.out.below hy TB.out.lt)
            replace FB := lh (FB.out.below hy FB.out.lt)
            replace BT := lh (BT.out.below hy BT.out.lt)
            replace BK := lh (BK.out.below hy BK.out.lt)
            replace BV := lh (BV.out.below hy BV.out.lt)
            replace KB := lh (KB.out.trans (hy.mono KB.out.size))
            replace PF := lh (PF.out.below hy PF.out.lt)
            replace PK := lh (PK.out.below hy PK.out.lt)
            replace D := lh (D.out.below hy D.out.lt)
            rw [← hgLB] at pb ⊢
            have LB := lh pb
            clear pb hy hgLB
            generalize Y3h3.alloc (.cells #[.slice none 0 0] 75) = Y3h4 at *
            refine hK.out _ _ ⟨BT.out, BK.out, TB.out⟩ (fun _ => ?_)
            clear hK KK
            try simp only [Act.put, tS1, tS2, tS3]
            refine tkO 12 (fun KK hK => ?_)
            go_simp
            refine (CO.out gI Y3h4 FB.out PF.out PK.out).mono ?_
            rintro e Y3h5 ⟨sv, rfl, hx, hy⟩
            replace K := lh (K.out.trans (hy.mono K.out.size))
            replace TB := lh (TB.out.below hy TB.out.lt)
            replace FB := lh (FB.out.below hy FB.out.lt)
            replace BT := lh (BT.out.below hy BT.out.lt)
            replace BK := lh (BK.out.below hy BK.out.lt)
            replace BV := lh (BV.out.below hy BV.out.lt)
            replace KB := lh (KB.out.trans (hy.mono KB.out.size))
            replace PF := lh (PF.out.below hy PF.out.lt)
            replace PK := lh (PK.out.below hy PK.out.lt)
            replace D := lh (D.out.below hy D.out.lt)
            replace LB := lh (LB.out.below hy LB.out.lt)
            clear hy
            have RS := lh (RdP.of_own hx hl0)
            clear hx PF PK
            obtain ⟨sg, scap, hsv⟩ := RdP.shape RS.out
            subst hsv
            refine hK.out _ _ ⟨BT.out, BK.out, TB.out⟩ (fun _ => ?_)
            clear hK KK
            try simp only [Act.put, tS1, tS2, tS3]
            have hPD : gD ≠ gLB := Blk.ne_ty D.out LB.out (by decide)
            refine tkO 15 (fun KK hK => ?_)
            have k1 : Y3h5.cell? ⟨gD, 0, none⟩ = some (.int .u16 0) := D.out.cell 0
            have k2 := D.out.frozen 0
            go_simp
            replace K := lh (K.out.setCell (p := ⟨gD, 0, none⟩) (by show _ ≤ gD; omega) (.int .u16 (dg : Int)))
            replace TB := lh (TB.out.far (p := ⟨gD, 0, none⟩) (by show _ ≠ gD; omega) (.int .u16 (dg : Int)))
            replace FB := lh (FB.out.far (p := ⟨gD, 0, none⟩) (by show _ ≠ gD; omega) (.int .u16 (dg : Int)))
            replace BT := lh (BT.out.far (p := ⟨gD, 0, none⟩) (by show _ ≠ gD; omega) (.int .u16 (dg : Int)))
            replace BK := lh (BK.out.far (p := ⟨gD, 0, none⟩) (by show _ ≠ gD; omega) (.int .u16 (dg : Int)))
            replace BV := lh (BV.out.far (p := ⟨gD, 0, none⟩) (by show _ ≠ gD; omega) (.int .u16 (dg : Int)))
            replace KB := lh (KB.out.setCell (p := ⟨gD, 0, none⟩) (by show _ ≤ gD; omega) (.int .u16 (dg : Int)))
            replace LB := lh (LB.out.far (p := ⟨gD, 0, none⟩) (by show _ ≠ gD; omega) (.int .u16 (dg : Int)))
            replace RS := lh (RS.out.far (p := ⟨gD, 0, none⟩) (by decide) D.out (.int .u16 (dg : Int)))
            replace D := lh (show Blk _ _ 40 #[.int .u16 (dg : Int)] from D.out.set_ 0 (.int .u16 (dg : Int)))
            clear k1 k2
            generalize Y3h5.setCell ⟨gD, 0, none⟩ (.int .u16 (dg : Int)) = Y3h6 at *
            refine hK.out _ _ ⟨BT.out, BK.out, TB.out⟩ (fun _ => ?_)
            clear hK KK
            try simp only [Act.put]
            refine tkO 16 (fun KK hK => ?_)
            have k1 : Y3h6.cell? ⟨gLB, 0, none⟩ = some (.slice none 0 0) := LB.out.cell 0
            have k2 := LB.out.frozen 0
            go_simp
            replace K := lh (K.out.setCell (p := ⟨gLB, 0, none⟩) (by show _ ≤ gLB; omega) ((.slice (some ⟨sg, 0, none⟩) L.length scap)))
            replace TB := lh (TB.out.far (p := ⟨gLB, 0, none⟩) (by show _ ≠ gLB; omega) ((.slice (some ⟨sg, 0, none⟩) L.length scap)))
            replace FB := lh (FB.out.far (p := ⟨gLB, 0, none⟩) (by show _ ≠ gLB; omega) ((.slice (some ⟨sg, 0, none⟩) L.length scap)))
            replace BT := lh (BT.out.far (p := ⟨gLB, 0, none⟩) (by show _ ≠ gLB; omega) ((.slice (some ⟨sg, 0, none⟩) L.length scap)))
            replace BK := lh (BK.out.far (p := ⟨gLB, 0, none⟩) (by show _ ≠ gLB; omega) ((.slice (some ⟨sg, 0, none⟩) L.length scap)))
            replace BV := lh (BV.out.far (p := ⟨gLB, 0, none⟩) (by show _ ≠ gLB; omega) ((.slice (some ⟨sg, 0, none⟩) L.length scap)))
            replace KB := lh (KB.out.setCell (p := ⟨gLB, 0, none⟩) (by show _ ≤ gLB; omega) ((.slice (some ⟨sg, 0, none⟩) L.length scap)))
            replace D := lh (D.out.far (p := ⟨gLB, 0, none⟩) (by show _ ≠ gLB; omega) ((.slice (some ⟨sg, 0, none⟩) L.length scap)))
            replace RS := lh (RS.out.far (p := ⟨gLB, 0, none⟩) (by decide) LB.out ((.slice (some ⟨sg, 0, none⟩) L.length scap)))
            replace LB := lh (show Blk _ _ 75 #[(.slice (some ⟨sg, 0, none⟩) L.length scap)] from LB.out.set_ 0 ((.slice (some ⟨sg, 0, none⟩) L.length scap)))
            clear k1 k2
            generalize Y3h6.setCell ⟨gLB, 0, none⟩ ((.slice (some ⟨sg, 0, none⟩) L.length scap)) = Y3h7 at *
            refine hK.out _ _ ⟨BT.out, BK.out, TB.out⟩ (fun _ => ?_)
            clear hK KK
            try simp only [Act.put]
            refine wpAnyH_done (by kernel_rfl) ?_ _
            simp only [noP]
            go_wp2
            go_meet
            exact ⟨gD, gLB, (.slice (some ⟨sg, 0, none⟩) L.length scap), rfl, rfl, D.out, LB.out, RS.out, hg0D, hg0LB, KB.out⟩
        · skip
          go_simp
          have pb := Blk.new Y3h2 75 #[.slice none 0 0]
          have hy := (Below.refl Y3h2.heap.size Y3h2).alloc (Nat.le_refl _) (.cells #[.slice none 0 0] 75)
          obtain ⟨gLB, hgLB⟩ : ∃ g, g = Y3h2.heap.size := ⟨_, rfl⟩
          have hg0LB : V1.heap.size ≤ gLB := by rw [hgLB]; exact KB.out.size
          replace K := lh (K.out.trans (hy.mono K.out.size))
          replace TB := lh (TB.out.below hy TB.out.lt)
          replace FB := lh (FB.out.below hy FB.out.lt)
          replace BT := lh (BT.out.below hy BT.out.lt)
          replace BK := lh (BK.out.below hy BK.out.lt)
          replace BV := lh (BV.out.below hy BV.out.lt)
          replace KB := lh (KB.out.trans (hy.mono KB.out.size))
          replace PF := lh (PF.out.below hy PF.out.lt)
          replace PK := lh (PK.out.below hy PK.out.lt)
          rw [← hgLB] at pb ⊢
          have LB := lh pb
          clear pb hy hgLB
          generalize Y3h2.alloc (.cells #[.slice none 0 0] 75) = Y3h3 at *
          refine hK.out _ _ ⟨BT.out, BK.out, TB.out⟩ (fun _ => ?_)
          clear hK KK
          try simp only [Act.put, tS1, tS2, tS3]
          refine tkB 12 13 (fun KK hK => ?_) (fun KK hK => ?_)
          · skip
            go_simp
            refine (CO.out gI Y3h3 FB.out PF.out PK.out).mono ?_
            rintro e Y3h4 ⟨sv, rfl, hx, hy⟩
            replace K := lh (K.out.trans (hy.mono K.out.size))
            replace TB := lh (TB.out.below hy TB.out.lt)
            replace FB := lh (FB.out.below hy FB.out.lt)
            replace BT := lh (BT.out.below hy BT.out.lt)
            replace BK := lh (BK.out.below hy BK.out.lt)
            replace BV := lh (BV.out.below hy BV.out.lt)
            replace KB := lh (KB.out.trans (hy.mono KB.out.size))
            replace PF := lh (PF.out.below hy PF.out.lt)
            replace PK := lh (PK.out.below hy PK.out.lt)
            replace LB := lh (LB.out.below hy LB.out.lt)
            clear hy
            have RS := lh (RdP.of_own hx hl0)
            clear hx PF PK
            obtain ⟨sg, scap, hsv⟩ := RdP.shape RS.out
            subst hsv
            refine hK.out _ _ ⟨BT.out, BK.out, TB.out⟩ (fun _ => ?_)
            clear hK KK
            try simp only [Act.put, tS1, tS2, tS3]
            refine tkO 13 (fun KK hK => ?_)
            go_simp
            have pb := Blk.new Y3h4 40 #[.int .u16 0]
            have hy := (Below.refl Y3h4.heap.size Y3h4).alloc (Nat.le_refl _) (.cells #[.int .u16 0] 40)
            obtain ⟨gD, hgD⟩ : ∃ g, g = Y3h4.heap.size := ⟨_, rfl⟩
            have hg0D : V1.heap.size ≤ gD := by rw [hgD]; exact KB.out.size
            replace K := lh (K.out.trans (hy.mono K.out.size))
            replace TB := lh (TB.out.below hy TB.out.lt)
            replace FB := lh (FB.out.below hy FB.out.lt)
            replace BT := lh (BT.out.below hy BT.out.lt)
            replace BK := lh (BK.out.below hy BK.out.lt)
            replace BV := lh (BV.out.below hy BV.out.lt)
            replace KB := lh (KB.out.trans (hy.mono KB.out.size))
            replace LB := lh (LB.out.below hy LB.out.lt)
            replace RS := lh (RS.out.below hy)
            rw [← hgD] at pb ⊢
            have D := lh pb
            clear pb hy hgD
            generalize Y3h4.alloc (.cells #[.int .u16 0] 40) = Y3h5 at *
            refine hK.out _ _ ⟨BT.out, BK.out, TB.out⟩ (fun _ => ?_)
            clear hK KK
            try simp only [Act.put, tS1, tS2, tS3]
            have hPD : gD ≠ gLB := Blk.ne_ty D.out LB.out (by decide)
            refine tkO 15 (fun KK hK => ?_)
            have k1 : Y3h5.cell? ⟨gD, 0, none⟩ = some (.int .u16 0) := D.out.cell 0
            have k2 := D.out.frozen 0
            go_simp
            replace K := lh (K.out.setCell (p := ⟨gD, 0, none⟩) (by show _ ≤ gD; omega) (.int .u16 (dg : Int)))
            replace TB := lh (TB.out.far (p := ⟨gD, 0, none⟩) (by show _ ≠ gD; omega) (.int .u16 (dg : Int)))
            replace FB := lh (FB.out.far (p := ⟨gD, 0, none⟩) (by show _ ≠ gD; omega) (.int .u16 (dg : Int)))
            replace BT := lh (BT.out.far (p := ⟨gD, 0, none⟩) (by show _ ≠ gD; omega) (.int .u16 (dg : Int)))
            replace BK := lh (BK.out.far (p := ⟨gD, 0, none⟩) (by show _ ≠ gD; omega) (.int .u16 (dg : Int)))
            replace BV := lh (BV.out.far (p := ⟨gD, 0, none⟩) (by show _ ≠ gD; omega) (.int .u16 (dg : Int)))
            replace KB := lh (KB.out.setCell (p := ⟨gD, 0, none⟩) (by show _ ≤ gD; omega) (.int .u16 (dg : Int)))
            replace LB := lh (LB.out.far (p := ⟨gD, 0, none⟩) (by show _ ≠ gD; omega) (.int .u16 (dg : Int)))
            replace RS := lh (RS.out.far (p := ⟨gD, 0, none⟩) (by decide) D.out (.int .u16 (dg : Int)))
            replace D := lh (show Blk _ _ 40 #[.int .u16 (dg : Int)] from D.out.set_ 0 (.int .u16 (dg : Int)))
            clear k1 k2
            generalize Y3h5.setCell ⟨gD, 0, none⟩ (.int .u16 (dg : Int)) = Y3h6 at *
            refine hK.out _ _ ⟨BT.out, BK.out, TB.out⟩ (fun _ => ?_)
            clear hK KK
            try simp only [Act.put]
            refine tkO 16 (fun KK hK => ?_)
            have k1 : Y3h6.cell? ⟨gLB, 0, none⟩ = some (.slice none 0 0) := LB.out.cell 0
            have k2 := LB.out.frozen 0
            go_simp
            replace K := lh (K.out.setCell (p := ⟨gLB, 0, none⟩) (by show _ ≤ gLB; omega) ((.slice (some ⟨sg, 0, none⟩) L.length scap)))
            replace TB := lh (TB.out.far (p := ⟨gLB, 0, none⟩) (by show _ ≠ gLB; omega) ((.slice (some ⟨sg, 0, none⟩) L.length scap)))
            replace FB := lh (FB.out.far (p := ⟨gLB, 0, none⟩) (by show _ ≠ gLB; omega) ((.slice (some ⟨sg, 0, none⟩) L.length scap)))
            replace BT := lh (BT.out.far (p := ⟨gLB, 0, none⟩) (by show _ ≠ gLB; omega) ((.slice (some ⟨sg, 0, none⟩) L.length scap)))
            replace BK := lh (BK.out.far (p := ⟨gLB, 0, none⟩) (by show _ ≠ gLB; omega) ((.slice (some ⟨sg, 0, none⟩) L.length scap)))
            replace BV := lh (BV.out.far (p := ⟨gLB, 0, none⟩) (by show _ ≠ gLB; omega) ((.slice (some ⟨sg, 0, none⟩) L.length scap)))
            replace KB := lh (KB.out.setCell (p := ⟨gLB, 0, none⟩) (by show _ ≤ gLB; omega) ((.slice (some ⟨sg, 0, none⟩) L.length scap)))
            replace RS := lh (RS.out.far (p := ⟨gLB, 0, none⟩) (by decide) LB.out ((.slice (some ⟨sg, 0, none⟩) L.length scap)))
            replace D := lh (D.out.far (p := ⟨gLB, 0, none⟩) (by show _ ≠ gLB; omega) ((.slice (some ⟨sg, 0, none⟩) L.length scap)))
            replace LB := lh (show Blk _ _ 75 #[(.slice (some ⟨sg, 0, none⟩) L.length scap)] from LB.out.set_ 0 ((.slice (some ⟨sg, 0, none⟩) L.length scap)))
            clear k1 k2
            generalize Y3h6.setCell ⟨gLB, 0, none⟩ ((.slice (some ⟨sg, 0, none⟩) L.length scap)) = Y3h7 at *
            refine hK.out _ _ ⟨BT.out, BK.out, TB.out⟩ (fun _ => ?_)
            clear hK KK
            try simp only [Act.put]
            refine wpAnyH_done (by kernel_rfl) ?_ _
            simp only [noP]
            go_wp2
            go_meet
            exact ⟨gD, gLB, (.slice (some ⟨sg, 0, none⟩) L.length scap), rfl, rfl, D.out, LB.out, RS.out, hg0D, hg0LB, KB.out⟩
          · skip
            go_simp
            have pb := Blk.new Y3h3 40 #[.int .u16 0]
            have hy := (Below.refl Y3h3.heap.size Y3h3).alloc (Nat.le_refl _) (.cells #[.int .u16 0] 40)
            obtain ⟨gD, hgD⟩ : ∃ g, g = Y3h3.heap.size := ⟨_, rfl⟩
            have hg0D : V1.heap.size ≤ gD := by rw [hgD]; exact KB.out.size
            replace K := lh (K.out.trans (hy.mono K.out.size))
            replace TB := lh (TB.out.below hy TB.out.lt)
            replace FB := lh (FB.out.below hy FB.out.lt)
            replace BT := lh (BT.out.below hy BT.out.lt)
            replace BK := lh (BK.out.below hy BK.out.lt)
            replace BV := lh (BV.out.below hy BV.out.lt)
            replace KB := lh (KB.out.trans (hy.mono KB.out.size))
            replace PF := lh (PF.out.below hy PF.out.lt)
            replace PK := lh (PK.out.below hy PK.out.lt)
            replace LB := lh (LB.out.below hy LB.out.lt)
            rw [← hgD] at pb ⊢
            have D := lh pb
            clear pb hy hgD
            generalize Y3h3.alloc (.cells #[.int .u16 0] 40) = Y3h4 at *
            refine hK.out _ _ ⟨BT.out, BK.out, TB.out⟩ (fun _ => ?_)
            clear hK KK
            try simp only [Act.put, tS1, tS2, tS3]
            refine tkO 12 (fun KK hK => ?_)
            go_simp
            refine (CO.out gI Y3h4 FB.out PF.out PK.out).mono ?_
            rintro e Y3h5 ⟨sv, rfl, hx, hy⟩
            replace K := lh (K.out.trans (hy.mono K.out.size))
            replace TB := lh (TB.out.below hy TB.out.lt)
            replace FB := lh (FB.out.below hy FB.out.lt)
            replace BT := lh (BT.out.below hy BT.out.lt)
            replace BK := lh (BK.out.below hy BK.out.lt)
            replace BV := lh (BV.out.below hy BV.out.lt)
            replace KB := lh (KB.out.trans (hy.mono KB.out.size))
            replace PF := lh (PF.out.below hy PF.out.lt)
            replace PK := lh (PK.out.below hy PK.out.lt)
            replace LB := lh (LB.out.below hy LB.out.lt)
            replace D := lh (D.out.below hy D.out.lt)
            clear hy
            have RS := lh (RdP.of_own hx hl0)
            clear hx PF PK
            obtain ⟨sg, scap, hsv⟩ := RdP.shape RS.out
            subst hsv
            refine hK.out _ _ ⟨BT.out, BK.out, TB.out⟩ (fun _ => ?_)
            clear hK KK
            try simp only [Act.put, tS1, tS2, tS3]
            have hPD : gD ≠ gLB := Blk.ne_ty D.out LB.out (by decide)
            refine tkO 15 (fun KK hK => ?_)
            have k1 : Y3h5.cell? ⟨gD, 0, none⟩ = some (.int .u16 0) := D.out.cell 0
            have k2 := D.out.frozen 0
            go_simp
            replace K := lh (K.out.setCell (p := ⟨gD, 0, none⟩) (by show _ ≤ gD; omega) (.int .u16 (dg : Int)))
            replace TB := lh (TB.out.far (p := ⟨gD, 0, none⟩) (by show _ ≠ gD; omega) (.int .u16 (dg : Int)))
            replace FB := lh (FB.out.far (p := ⟨gD, 0, none⟩) (by show _ ≠ gD; omega) (.int .u16 (dg : Int)))
            replace BT := lh (BT.out.far (p := ⟨gD, 0, none⟩) (by show _ ≠ gD; omega) (.int .u16 (dg : Int)))
            replace BK := lh (BK.out.far (p := ⟨gD, 0, none⟩) (by show _ ≠ gD; omega) (.int .u16 (dg : Int)))
            replace BV := lh (BV.out.far (p := ⟨gD, 0, none⟩) (by show _ ≠ gD; omega) (.int .u16 (dg : Int)))
            replace KB := lh (KB.out.setCell (p := ⟨gD, 0, none⟩) (by show _ ≤ gD; omega) (.int .u16 (dg : Int)))
            replace LB := lh (LB.out.far (p := ⟨gD, 0, none⟩) (by show _ ≠ gD; omega) (.int .u16 (dg : Int)))
            replace RS := lh (RS.out.far (p := ⟨gD, 0, none⟩) (by decide) D.out (.int .u16 (dg : Int)))
            replace D := lh (show Blk _ _ 40 #[.int .u16 (dg : Int)] from D.out.set_ 0 (.int .u16 (dg : Int)))
            clear k1 k2
            generalize Y3h5.setCell ⟨gD, 0, none⟩ (.int .u16 (dg : Int)) = Y3h6 at *
            refine hK.out _ _ ⟨BT.out, BK.out, TB.out⟩ (fun _ => ?_)
            clear hK KK
            try simp only [Act.put]
            refine tkO 16 (fun KK hK => ?_)
            have k1 : Y3h6.cell? ⟨gLB, 0, none⟩ = some (.slice none 0 0) := LB.out.cell 0
            have k2 := LB.out.frozen 0
            go_simp
            replace K := lh (K.out.setCell (p := ⟨gLB, 0, none⟩) (by show _ ≤ gLB; omega) ((.slice (some ⟨sg, 0, none⟩) L.length scap)))
            replace TB := lh (TB.out.far (p := ⟨gLB, 0, none⟩) (by show _ ≠ gLB; omega) ((.slice (some ⟨sg, 0, none⟩) L.length scap)))
            replace FB := lh (FB.out.far (p := ⟨gLB, 0, none⟩) (by show _ ≠ gLB; omega) ((.slice (some ⟨sg, 0, none⟩) L.length scap)))
            replace BT := lh (BT.out.far (p := ⟨gLB, 0, none⟩) (by show _ ≠ gLB; omega) ((.slice (some ⟨sg, 0, none⟩) L.length scap)))
            replace BK := lh (BK.out.far (p := ⟨gLB, 0, none⟩) (by show _ ≠ gLB; omega) ((.slice (some ⟨sg, 0, none⟩) L.length scap)))
            replace BV := lh (BV.out.far (p := ⟨gLB, 0, none⟩) (by show _ ≠ gLB; omega) ((.slice (some ⟨sg, 0, none⟩) L.length scap)))
            replace KB := lh (KB.out.setCell (p := ⟨gLB, 0, none⟩) (by show _ ≤ gLB; omega) ((.slice (some ⟨sg, 0, none⟩) L.length scap)))
            replace D := lh (D.out.far (p := ⟨gLB, 0, none⟩) (by show _ ≠ gLB; omega) ((.slice (some ⟨sg, 0, none⟩) L.length scap)))
            replace RS := lh (RS.out.far (p := ⟨gLB, 0, none⟩) (by decide) LB.out ((.slice (some ⟨sg, 0, none⟩) L.length scap)))
            replace LB := lh (show Blk _ _ 75 #[(.slice (some ⟨sg, 0, none⟩) L.length scap)] from LB.out.set_ 0 ((.slice (some ⟨sg, 0, none⟩) L.length scap)))
            clear k1 k2
            generalize Y3h6.setCell ⟨gLB, 0, none⟩ ((.slice (some ⟨sg, 0, none⟩) L.length scap)) = Y3h7 at *
            refine hK.out _ _ ⟨BT.out, BK.out, TB.out⟩ (fun _ => ?_)
            clear hK KK
            try simp only [Act.put]
            refine wpAnyH_done (by kernel_rfl) ?_ _
            simp only [noP]
            go_wp2
            go_meet
            exact ⟨gD, gLB, (.slice (some ⟨sg, 0, none⟩) L.length scap), rfl, rfl, D.out, LB.out, RS.out, hg0D, hg0LB, KB.out⟩
      · skip
        go_simp
        have pb := Blk.new Y3h1 40 #[.int .u16 0]
        have hy := (Below.refl Y3h1.heap.size Y3h1).alloc (Nat.le_refl _) (.cells #[.int .u16 0] 40)
        obtain ⟨gD, hgD⟩ : ∃ g, g = Y3h1.heap.size := ⟨_, rfl⟩
        have hg0D : V1.heap.size ≤ gD := by rw [hgD]; exact KB.out.size
        replace K := lh (K.out.trans (hy.mono K.out.size))
        replace TB := lh (TB.out.below hy TB.out.lt)
        replace FB := lh (FB.out.below hy FB.out.lt)
        replace BT := lh (BT.out.below hy BT.out.lt)
        replace BK := lh (BK.out.below hy BK.out.lt)
        replace BV := lh (BV.out.below hy BV.out.lt)
        replace KB := lh (KB.out.trans (hy.mono KB.out.size))
        rw [← hgD] at pb ⊢
        have D := lh pb
        clear pb hy hgD
        generalize Y3h1.alloc (.cells #[.int .u16 0] 40) = Y3h2 at *
        refine hK.out _ _ ⟨BT.out, BK.out, TB.out⟩ (fun _ => ?_)
        clear hK KK
        try simp only [Act.put, tS1, tS2, tS3]
        refine tkB 11 14 (fun KK hK => ?_) (fun KK hK => ?_)
        · skip
          obtain ⟨gI, hgI⟩ : ∃ g, g = Y3h2.heap.size := ⟨_, rfl⟩
          have hgI0 : V1.heap.size ≤ gI := by rw [hgI]; exact KB.out.size
          go_simp
          refine (CPL.out Y3h2).mono ?_
          rintro e Y3h3 ⟨rfl, h1, h2, hy⟩
          replace K := lh (K.out.trans (hy.mono K.out.size))
          replace TB := lh (TB.out.below hy TB.out.lt)
          replace FB := lh (FB.out.below hy FB.out.lt)
          replace BT := lh (BT.out.below hy BT.out.lt)
          replace BK := lh (BK.out.below hy BK.out.lt)
          replace BV := lh (BV.out.below hy BV.out.lt)
          replace KB := lh (KB.out.trans (hy.mono KB.out.size))
          replace D := lh (D.out.below hy D.out.lt)
          clear hy
          rw [← hgI] at h1 h2 ⊢
          have PF := lh (show Blk _ gI 68 #[.pointer (some ⟨fn, 0, none⟩)] from h1)
          have PK := lh h2
          clear h1 h2 hgI
          refine hK.out _ _ ⟨BT.out, BK.out, TB.out⟩ (fun _ => ?_)
          clear hK KK
          try simp only [Act.put, tS1, tS2, tS3]
          refine tkB 12 14 (fun KK hK => ?_) (fun KK hK => ?_)
          · skip
            go_simp
            refine (CO.out gI Y3h3 FB.out PF.out PK.out).mono ?_
            rintro e Y3h4 ⟨sv, rfl, hx, hy⟩
            replace K := lh (K.out.trans (hy.mono K.out.size))
            replace TB := lh (TB.out.below hy TB.out.lt)
            replace FB := lh (FB.out.below hy FB.out.lt)
            replace BT := lh (BT.out.below hy BT.out.lt)
            replace BK := lh (BK.out.below hy BK.out.lt)
            replace BV := lh (BV.out.below hy BV.out.lt)
            replace KB := lh (KB.out.trans (hy.mono KB.out.size))
            replace D := lh (D.out.below hy D.out.lt)
            replace PF := lh (PF.out.below hy PF.out.lt)
            replace PK := lh (PK.out.below hy PK.out.lt)
            clear hy
            have RS := lh (RdP.of_own hx hl0)
            clear hx PF PK
            obtain ⟨sg, scap, hsv⟩ := RdP.shape RS.out
            subst hsv
            refine hK.out _ _ ⟨BT.out, BK.out, TB.out⟩ (fun _ => ?_)
            clear hK KK
            try simp only [Act.put, tS1, tS2, tS3]
            refine tkO 14 (fun KK hK => ?_)
            go_simp
            have pb := Blk.new Y3h4 75 #[.slice none 0 0]
            have hy := (Below.refl Y3h4.heap.size Y3h4).alloc (Nat.le_refl _) (.cells #[.slice none 0 0] 75)
            obtain ⟨gLB, hgLB⟩ : ∃ g, g = Y3h4.heap.size := ⟨_, rfl⟩
            have hg0LB : V1.heap.size ≤ gLB := by rw [hgLB]; exact KB.out.size
            replace K := lh (K.out.trans (hy.mono K.out.size))
            replace TB := lh (TB.out.below hy TB.out.lt)
            replace FB := lh (FB.out.below hy FB.out.lt)
            replace BT := lh (BT.out.below hy BT.out.lt)
            replace BK := lh (BK.out.below hy BK.out.lt)
            replace BV := lh (BV.out.below hy BV.out.lt)
            replace KB := lh (KB.out.trans (hy.mono KB.out.size))
            replace D := lh (D.out.below hy D.out.lt)
            replace RS := lh (RS.out.below hy)
            rw [← hgLB] at pb ⊢
            have LB := lh pb
            clear pb hy hgLB
            generalize Y3h4.alloc (.cells #[.slice none 0 0] 75) = Y3h5 at *
            refine hK.out _ _ ⟨BT.out, BK.out, TB.out⟩ (fun _ => ?_)
            clear hK KK
            try simp only [Act.put, tS1, tS2, tS3]
            have hPD : gD ≠ gLB := Blk.ne_ty D.out LB.out (by decide)
            refine tkO 15 (fun KK hK => ?_)
            have k1 : Y3h5.cell? ⟨gD, 0, none⟩ = some (.int .u16 0) := D.out.cell 0
            have k2 := D.out.frozen 0
            go_simp
            replace K := lh (K.out.setCell (p := ⟨gD, 0, none⟩) (by show _ ≤ gD; omega) (.int .u16 (dg : Int)))
            replace TB := lh (TB.out.far (p := ⟨gD, 0, none⟩) (by show _ ≠ gD; omega) (.int .u16 (dg : Int)))
            replace FB := lh (FB.out.far (p := ⟨gD, 0, none⟩) (by show _ ≠ gD; omega) (.int .u16 (dg : Int)))
            replace BT := lh (BT.out.far (p := ⟨gD, 0, none⟩) (by show _ ≠ gD; omega) (.int .u16 (dg : Int)))
            replace BK := lh (BK.out.far (p := ⟨gD, 0, none⟩) (by show _ ≠ gD; omega) (.int .u16 (dg : Int)))
            replace BV := lh (BV.out.far (p := ⟨gD, 0, none⟩) (by show _ ≠ gD; omega) (.int .u16 (dg : Int)))
            replace KB := lh (KB.out.setCell (p := ⟨gD, 0, none⟩) (by show _ ≤ gD; omega) (.int .u16 (dg : Int)))
            replace RS := lh (RS.out.far (p := ⟨gD, 0, none⟩) (by decide) D.out (.int .u16 (dg : Int)))
            replace LB := lh (LB.out.far (p := ⟨gD, 0, none⟩) (by show _ ≠ gD; omega) (.int .u16 (dg : Int)))
            replace D := lh (show Blk _ _ 40 #[.int .u16 (dg : Int)] from D.out.set_ 0 (.int .u16 (dg : Int)))
            clear k1 k2
            generalize Y3h5.setCell ⟨gD, 0, none⟩ (.int .u16 (dg : Int)) = Y3h6 at *
            refine hK.out _ _ ⟨BT.out, BK.out, TB.out⟩ (fun _ => ?_)
            clear hK KK
            try simp only [Act.put]
            refine tkO 16 (fun KK hK => ?_)
            have k1 : Y3h6.cell? ⟨gLB, 0, none⟩ = some (.slice none 0 0) := LB.out.cell 0
            have k2 := LB.out.frozen 0
            go_simp
            replace K := lh (K.out.setCell (p := ⟨gLB, 0, none⟩) (by show _ ≤ gLB; omega) ((.slice (some ⟨sg, 0, none⟩) L.length scap)))
            replace TB := lh (TB.out.far (p := ⟨gLB, 0, none⟩) (by show _ ≠ gLB; omega) ((.slice (some ⟨sg, 0, none⟩) L.length scap)))
            replace FB := lh (FB.out.far (p := ⟨gLB, 0, none⟩) (by show _ ≠ gLB; omega) ((.slice (some ⟨sg, 0, none⟩) L.length scap)))
            replace BT := lh (BT.out.far (p := ⟨gLB, 0, none⟩) (by show _ ≠ gLB; omega) ((.slice (some ⟨sg, 0, none⟩) L.length scap)))
            replace BK := lh (BK.out.far (p := ⟨gLB, 0, none⟩) (by show _ ≠ gLB; omega) ((.slice (some ⟨sg, 0, none⟩) L.length scap)))
            replace BV := lh (BV.out.far (p := ⟨gLB, 0, none⟩) (by show _ ≠ gLB; omega) ((.slice (some ⟨sg, 0, none⟩) L.length scap)))
            replace KB := lh (KB.out.setCell (p := ⟨gLB, 0, none⟩) (by show _ ≤ gLB; omega) ((.slice (some ⟨sg, 0, none⟩) L.length scap)))
            replace D := lh (D.out.far (p := ⟨gLB, 0, none⟩) (by show _ ≠ gLB; omega) ((.slice (some ⟨sg, 0, none⟩) L.length scap)))
            replace RS := lh (RS.out.far (p := ⟨gLB, 0, none⟩) (by decide) LB.out ((.slice (some ⟨sg, 0, none⟩) L.length scap)))
            replace LB := lh (show Blk _ _ 75 #[(.slice (some ⟨sg, 0, none⟩) L.length scap)] from LB.out.set_ 0 ((.slice (some ⟨sg, 0, none⟩) L.length scap)))
            clear k1 k2
            generalize Y3h6.setCell ⟨gLB, 0, none⟩ ((.slice (some ⟨sg, 0, none⟩) L.length scap)) = Y3h7 at *
            refine hK.out _ _ ⟨BT.out, BK.out, TB.out⟩ (fun _ => ?_)
            clear hK KK
            try simp only [Act.put]
            refine wpAnyH_done (by kernel_rfl) ?_ _
            simp only [noP]
            go_wp2
            go_meet
            exact ⟨gD, gLB, (.slice (some ⟨sg, 0, none⟩) L.length scap), rfl, rfl, D.out, LB.out, RS.out, hg0D, hg0LB, KB.out⟩
          · skip
            go_simp
            have pb := Blk.new Y3h3 75 #[.slice none 0 0]
            have hy := (Below.refl Y3h3.heap.size Y3h3).alloc (Nat.le_refl _) (.cells #[.slice none 0 0] 75)
            obtain ⟨gLB, hgLB⟩ : ∃ g, g = Y3h3.heap.size := ⟨_, rfl⟩
            have hg0LB : V1.heap.size ≤ gLB := by rw [hgLB]; exact KB.out.size
            replace K := lh (K.out.trans (hy.mono K.out.size))
            replace TB := lh (TB.out.below hy TB.out.lt)
            replace FB := lh (FB.out.below hy FB.out.lt)
            replace BT := lh (BT.out.below hy BT.out.lt)
            replace BK := lh (BK.out.below hy BK.out.lt)
            replace BV := lh (BV.out.below hy BV.out.lt)
            replace KB := lh (KB.out.trans (hy.mono KB.out.size))
            replace D := lh (D.out.below hy D.out.lt)
            replace PF := lh (PF.out.below hy PF.out.lt)
            replace PK := lh (PK.out.below hy PK.out.lt)
            rw [← hgLB] at pb ⊢
            have LB := lh pb
            clear pb hy hgLB
            generalize Y3h3.alloc (.cells #[.slice none 0 0] 75) = Y3h4 at *
            refine hK.out _ _ ⟨BT.out, BK.out, TB.out⟩ (fun _ => ?_)
            clear hK KK
            try simp only [Act.put, tS1, tS2, tS3]
            refine tkO 12 (fun KK hK => ?_)
            go_simp
            refine (CO.out gI Y3h4 FB.out PF.out PK.out).mono ?_
            rintro e Y3h5 ⟨sv, rfl, hx, hy⟩
            replace K := lh (K.out.trans (hy.mono K.out.size))
            replace TB := lh (TB.out.below hy TB.out.lt)
            replace FB := lh (FB.out.below hy FB.out.lt)
            replace BT := lh (BT.out.below hy BT.out.lt)
            replace BK := lh (BK.out.below hy BK.out.lt)
            replace BV := lh (BV.out.below hy BV.out.lt)
            replace KB := lh (KB.out.trans (hy.mono KB.out.size))
            replace D := lh (D.out.below hy D.out.lt)
            replace PF := lh (PF.out.below hy PF.out.lt)
            replace PK := lh (PK.out.below hy PK.out.lt)
            replace LB := lh (LB.out.below hy LB.out.lt)
            clear hy
            have RS := lh (RdP.of_own hx hl0)
            clear hx PF PK
            obtain ⟨sg, scap, hsv⟩ := RdP.shape RS.out
            subst hsv
            refine hK.out _ _ ⟨BT.out, BK.out, TB.out⟩ (fun _ => ?_)
            clear hK KK
            try simp only [Act.put, tS1, tS2, tS3]
            have hPD : gD ≠ gLB := Blk.ne_ty D.out LB.out (by decide)
            refine tkO 15 (fun KK hK => ?_)
            have k1 : Y3h5.cell? ⟨gD, 0, none⟩ = some (.int .u16 0) := D.out.cell 0
            have k2 := D.out.frozen 0
            go_simp
            replace K := lh (K.out.setCell (p := ⟨gD, 0, none⟩) (by show _ ≤ gD; omega) (.int .u16 (dg : Int)))
            replace TB := lh (TB.out.far (p := ⟨gD, 0, none⟩) (by show _ ≠ gD; omega) (.int .u16 (dg : Int)))
            replace FB := lh (FB.out.far (p := ⟨gD, 0, none⟩) (by show _ ≠ gD; omega) (.int .u16 (dg : Int)))
            replace BT := lh (BT.out.far (p := ⟨gD, 0, none⟩) (by show _ ≠ gD; omega) (.int .u16 (dg : Int)))
            replace BK := lh (BK.out.far (p := ⟨gD, 0, none⟩) (by show _ ≠ gD; omega) (.int .u16 (dg : Int)))
            replace BV := lh (BV.out.far (p := ⟨gD, 0, none⟩) (by show _ ≠ gD; omega) (.int .u16 (dg : Int)))
            replace KB := lh (KB.out.setCell (p := ⟨gD, 0, none⟩) (by show _ ≤ gD; omega) (.int .u16 (dg : Int)))
            replace LB := lh (LB.out.far (p := ⟨gD, 0, none⟩) (by show _ ≠ gD; omega) (.int .u16 (dg : Int)))
            replace RS := lh (RS.out.far (p := ⟨gD, 0, none⟩) (by decide) D.out (.int .u16 (dg : Int)))
            replace D := lh (show Blk _ _ 40 #[.int .u16 (dg : Int)] from D.out.set_ 0 (.int .u16 (dg : Int)))
            clear k1 k2
            generalize Y3h5.setCell ⟨gD, 0, none⟩ (.int .u16 (dg : Int)) = Y3h6 at *
            refine hK.out _ _ ⟨BT.out, BK.out, TB.out⟩ (fun _ => ?_)
            clear hK KK
            try simp only [Act.put]
            refine tkO 16 (fun KK hK => ?_)
            have k1 : Y3h6.cell? ⟨gLB, 0, none⟩ = some (.slice none 0 0) := LB.out.cell 0
            have k2 := LB.out.frozen 0
            go_simp
            replace K := lh (K.out.setCell (p := ⟨gLB, 0, none⟩) (by show _ ≤ gLB; omega) ((.slice (some ⟨sg, 0, none⟩) L.length scap)))
            replace TB := lh (TB.out.far (p := ⟨gLB, 0, none⟩) (by show _ ≠ gLB; omega) ((.slice (some ⟨sg, 0, none⟩) L.length scap)))
            replace FB := lh (FB.out.far (p := ⟨gLB, 0, none⟩) (by show _ ≠ gLB; omega) ((.slice (some ⟨sg, 0, none⟩) L.length scap)))
            replace BT := lh (BT.out.far (p := ⟨gLB, 0, none⟩) (by show _ ≠ gLB; omega) ((.slice (some ⟨sg, 0, none⟩) L.length scap)))
            replace BK := lh (BK.out.far (p := ⟨gLB, 0, none⟩) (by show _ ≠ gLB; omega) ((.slice (some ⟨sg, 0, none⟩) L.length scap)))
            replace BV := lh (BV.out.far (p := ⟨gLB, 0, none⟩) (by show _ ≠ gLB; omega) ((.slice (some ⟨sg, 0, none⟩) L.length scap)))
            replace KB := lh (KB.out.setCell (p := ⟨gLB, 0, none⟩) (by show _ ≤ gLB; omega) ((.slice (some ⟨sg, 0, none⟩) L.length scap)))
            replace D := lh (D.out.far (p := ⟨gLB, 0, none⟩) (by show _ ≠ gLB; omega) ((.slice (some ⟨sg, 0, none⟩) L.length scap)))
            replace RS := lh (RS.out.far (p := ⟨gLB, 0, none⟩) (by decide) LB.out ((.slice (some ⟨sg, 0, none⟩) L.length scap)))
            replace LB := lh (show Blk _ _ 75 #[(.slice (some ⟨sg, 0, none⟩) L.length scap)] from LB.out.set_ 0 ((.slice (some ⟨sg, 0, none⟩) L.length scap)))
            clear k1 k2
            generalize Y3h6.setCell ⟨gLB, 0, none⟩ ((.slice (some ⟨sg, 0, none⟩) L.length scap)) = Y3h7 at *
            refine hK.out _ _ ⟨BT.out, BK.out, TB.out⟩ (fun _ => ?_)
            clear hK KK
            try simp only [Act.put]
            refine wpAnyH_done (by kernel_rfl) ?_ _
            simp only [noP]
            go_wp2
            go_meet
            exact ⟨gD, gLB, (.slice (some ⟨sg, 0, none⟩) L.length scap), rfl, rfl, D.out, LB.out, RS.out, hg0D, hg0LB, KB.out⟩
        · skip
          go_simp
          have pb := Blk.new Y3h2 75 #[.slice none 0 0]
          have hy := (Below.refl Y3h2.heap.size Y3h2).alloc (Nat.le_refl _) (.cells #[.slice none 0 0] 75)
          obtain ⟨gLB, hgLB⟩ : ∃ g, g = Y3h2.heap.size := ⟨_, rfl⟩
          have hg0LB : V1.heap.size ≤ gLB := by rw [hgLB]; exact KB.out.size
          replace K := lh (K.out.trans (hy.mono K.out.size))
          replace TB := lh (TB.out.below hy TB.out.lt)
          replace FB := lh (FB.out.below hy FB.out.lt)
          replace BT := lh (BT.out.below hy BT.out.lt)
          replace BK := lh (BK.out.below hy BK.out.lt)
          replace BV := lh (BV.out.below hy BV.out.lt)
          replace KB := lh (KB.out.trans (hy.mono KB.out.size))
          replace D := lh (D.out.below hy D.out.lt)
          rw [← hgLB] at pb ⊢
          have LB := lh pb
          clear pb hy hgLB
          generalize Y3h2.alloc (.cells #[.slice none 0 0] 75) = Y3h3 at *
          refine hK.out _ _ ⟨BT.out, BK.out, TB.out⟩ (fun _ => ?_)
          clear hK KK
          try simp only [Act.put, tS1, tS2, tS3]
          refine tkO 11 (fun KK hK => ?_)
          obtain ⟨gI, hgI⟩ : ∃ g, g = Y3h3.heap.size := ⟨_, rfl⟩
          have hgI0 : V1.heap.size ≤ gI := by rw [hgI]; exact KB.out.size
          go_simp
          refine (CPL.out Y3h3).mono ?_
          rintro e Y3h4 ⟨rfl, h1, h2, hy⟩
          replace K := lh (K.out.trans (hy.mono K.out.size))
          replace TB := lh (TB.out.below hy TB.out.lt)
          replace FB := lh (FB.out.below hy FB.out.lt)
          replace BT := lh (BT.out.below hy BT.out.lt)
          replace BK := lh (BK.out.below hy BK.out.lt)
          replace BV := lh (BV.out.below hy BV.out.lt)
          replace KB := lh (KB.out.trans (hy.mono KB.out.size))
          replace D := lh (D.out.below hy D.out.lt)
          replace LB := lh (LB.out.below hy LB.out.lt)
          clear hy
          rw [← hgI] at h1 h2 ⊢
          have PF := lh (show Blk _ gI 68 #[.pointer (some ⟨fn, 0, none⟩)] from h1)
          have PK := lh h2
          clear h1 h2 hgI
          refine hK.out _ _ ⟨BT.out, BK.out, TB.out⟩ (fun _ => ?_)
          clear hK KK
          try simp only [Act.put, tS1, tS2, tS3]
          refine tkO 12 (fun KK hK => ?_)
          go_simp
          refine (CO.out gI Y3h4 FB.out PF.out PK.out).mono ?_
          rintro e Y3h5 ⟨sv, rfl, hx, hy⟩
          replace K := lh (K.out.trans (hy.mono K.out.size))
          replace TB := lh (TB.out.below hy TB.out.lt)
          replace FB := lh (FB.out.below hy FB.out.lt)
          replace BT := lh (BT.out.below hy BT.out.lt)
          replace BK := lh (BK.out.below hy BK.out.lt)
          replace BV := lh (BV.out.below hy BV.out.lt)
          replace KB := lh (KB.out.trans (hy.mono KB.out.size))
          replace D := lh (D.out.below hy D.out.lt)
          replace LB := lh (LB.out.below hy LB.out.lt)
          replace PF := lh (PF.out.below hy PF.out.lt)
          replace PK := lh (PK.out.below hy PK.out.lt)
          clear hy
          have RS := lh (RdP.of_own hx hl0)
          clear hx PF PK
          obtain ⟨sg, scap, hsv⟩ := RdP.shape RS.out
          subst hsv
          refine hK.out _ _ ⟨BT.out, BK.out, TB.out⟩ (fun _ => ?_)
          clear hK KK
          try simp only [Act.put, tS1, tS2, tS3]
          have hPD : gD ≠ gLB := Blk.ne_ty D.out LB.out (by decide)
          refine tkO 15 (fun KK hK => ?_)
          have k1 : Y3h5.cell? ⟨gD, 0, none⟩ = some (.int .u16 0) := D.out.cell 0
          have k2 := D.out.frozen 0
          go_simp
          replace K := lh (K.out.setCell (p := ⟨gD, 0, none⟩) (by show _ ≤ gD; omega) (.int .u16 (dg : Int)))
          replace TB := lh (TB.out.far (p := ⟨gD, 0, none⟩) (by show _ ≠ gD; omega) (.int .u16 (dg : Int)))
          replace FB := lh (FB.out.far (p := ⟨gD, 0, none⟩) (by show _ ≠ gD; omega) (.int .u16 (dg : Int)))
          replace BT := lh (BT.out.far (p := ⟨gD, 0, none⟩) (by show _ ≠ gD; omega) (.int .u16 (dg : Int)))
          replace BK := lh (BK.out.far (p := ⟨gD, 0, none⟩) (by show _ ≠ gD; omega) (.int .u16 (dg : Int)))
          replace BV := lh (BV.out.far (p := ⟨gD, 0, none⟩) (by show _ ≠ gD; omega) (.int .u16 (dg : Int)))
          replace KB := lh (KB.out.setCell (p := ⟨gD, 0, none⟩) (by show _ ≤ gD; omega) (.int .u16 (dg : Int)))
          replace LB := lh (LB.out.far (p := ⟨gD, 0, none⟩) (by show _ ≠ gD; omega) (.int .u16 (dg : Int)))
          replace RS := lh (RS.out.far (p := ⟨gD, 0, none⟩) (by decide) D.out (.int .u16 (dg : Int)))
          replace D := lh (show Blk _ _ 40 #[.int .u16 (dg : Int)] from D.out.set_ 0 (.int .u16 (dg : Int)))
          clear k1 k2
          generalize Y3h5.setCell ⟨gD, 0, none⟩ (.int .u16 (dg : Int)) = Y3h6 at *
          refine hK.out _ _ ⟨BT.out, BK.out, TB.out⟩ (fun _ => ?_)
          clear hK KK
          try simp only [Act.put]
          refine tkO 16 (fun KK hK => ?_)
          have k1 : Y3h6.cell? ⟨gLB, 0, none⟩ = some (.slice none 0 0) := LB.out.cell 0
          have k2 := LB.out.frozen 0
          go_simp
          replace K := lh (K.out.setCell (p := ⟨gLB, 0, none⟩) (by show _ ≤ gLB; omega) ((.slice (some ⟨sg, 0, none⟩) L.length scap)))
          replace TB := lh (TB.out.far (p := ⟨gLB, 0, none⟩) (by show _ ≠ gLB; omega) ((.slice (some ⟨sg, 0, none⟩) L.length scap)))
          replace FB := lh (FB.out.far (p := ⟨gLB, 0, none⟩) (by show _ ≠ gLB; omega) ((.slice (some ⟨sg, 0, none⟩) L.length scap)))
          replace BT := lh (BT.out.far (p := ⟨gLB, 0, none⟩) (by show _ ≠ gLB; omega) ((.slice (some ⟨sg, 0, none⟩) L.length scap)))
          replace BK := lh (BK.out.far (p := ⟨gLB, 0, none⟩) (by show _ ≠ gLB; omega) ((.slice (some ⟨sg, 0, none⟩) L.length scap)))
          replace BV := lh (BV.out.far (p := ⟨gLB, 0, none⟩) (by show _ ≠ gLB; omega) ((.slice (some ⟨sg, 0, none⟩) L.length scap)))
          replace KB := lh (KB.out.setCell (p := ⟨gLB, 0, none⟩) (by show _ ≤ gLB; omega) ((.slice (some ⟨sg, 0, none⟩) L.length scap)))
          replace D := lh (D.out.far (p := ⟨gLB, 0, none⟩) (by show _ ≠ gLB; omega) ((.slice (some ⟨sg, 0, none⟩) L.length scap)))
          replace RS := lh (RS.out.far (p := ⟨gLB, 0, none⟩) (by decide) LB.out ((.slice (some ⟨sg, 0, none⟩) L.length scap)))
          replace LB := lh (show Blk _ _ 75 #[(.slice (some ⟨sg, 0, none⟩) L.length scap)] from LB.out.set_ 0 ((.slice (some ⟨sg, 0, none⟩) L.length scap)))
          clear k1 k2
          generalize Y3h6.setCell ⟨gLB, 0, none⟩ ((.slice (some ⟨sg, 0, none⟩) L.length scap)) = Y3h7 at *
          refine hK.out _ _ ⟨BT.out, BK.out, TB.out⟩ (fun _ => ?_)
          clear hK KK
          try simp only [Act.put]
          refine wpAnyH_done (by kernel_rfl) ?_ _
          simp only [noP]
          go_wp2
          go_meet
          exact ⟨gD, gLB, (.slice (some ⟨sg, 0, none⟩) L.length scap), rfl, rfl, D.out, LB.out, RS.out, hg0D, hg0LB, KB.out⟩
      · skip
        go_simp
        have pb := Blk.new Y3h1 75 #[.slice none 0 0]
        have hy := (Below.refl Y3h1.heap.size Y3h1).alloc (Nat.le_refl _) (.cells #[.slice none 0 0] 75)
        obtain ⟨gLB, hgLB⟩ : ∃ g, g = Y3h1.heap.size := ⟨_, rfl⟩
        have hg0LB : V1.heap.size ≤ gLB := by rw [hgLB]; exact KB.out.size
        replace K := lh (K.out.trans (hy.mono K.out.size))
        replace TB := lh (TB.out.below hy TB.out.lt)
        replace FB := lh (FB.out.below hy FB.out.lt)
        replace BT := lh (BT.out.below hy BT.out.lt)
        replace BK := lh (BK.out.below hy BK.out.lt)
        replace BV := lh (BV.out.below hy BV.out.lt)
        replace KB := lh (KB.out.trans (hy.mono KB.out.size))
        rw [← hgLB] at pb ⊢
        have LB := lh pb
        clear pb hy hgLB
        generalize Y3h1.alloc (.cells #[.slice none 0 0] 75) = Y3h2 at *
        refine hK.out _ _ ⟨BT.out, BK.out, TB.out⟩ (fun _ => ?_)
        clear hK KK
        try simp only [Act.put, tS1, tS2, tS3]
        refine tkB 11 13 (fun KK hK => ?_) (fun KK hK => ?_)
        · skip
          obtain ⟨gI, hgI⟩ : ∃ g, g = Y3h2.heap.size := ⟨_, rfl⟩
          have hgI0 : V1.heap.size ≤ gI := by rw [hgI]; exact KB.out.size
          go_simp
          refine (CPL.out Y3h2).mono ?_
          rintro e Y3h3 ⟨rfl, h1, h2, hy⟩
          replace K := lh (K.out.trans (hy.mono K.out.size))
          replace TB := lh (TB.out.below hy TB.out.lt)
          replace FB := lh (FB.out.below hy FB.out.lt)
          replace BT := lh (BT.out.below hy BT.out.lt)
          replace BK := lh (BK.out.below hy BK.out.lt)
          replace BV := lh (BV.out.below hy BV.out.lt)
          replace KB := lh (KB.out.trans (hy.mono KB.out.size))
          replace LB := lh (LB.out.below hy LB.out.lt)
          clear hy
          rw [← hgI] at h1 h2 ⊢
          have PF := lh (show Blk _ gI 68 #[.pointer (some ⟨fn, 0, none⟩)] from h1)
          have PK := lh h2
          clear h1 h2 hgI
          refine hK.out _ _ ⟨BT.out, BK.out, TB.out⟩ (fun _ => ?_)
          clear hK KK
          try simp only [Act.put, tS1, tS2, tS3]
          refine tkB 12 13 (fun KK hK => ?_) (fun KK hK => ?_)
          · skip
            go_simp
            refine (CO.out gI Y3h3 FB.out PF.out PK.out).mono ?_
            rintro e Y3h4 ⟨sv, rfl, hx, hy⟩
            replace K := lh (K.out.trans (hy.mono K.out.size))
            replace TB := lh (TB.out.below hy TB.out.lt)
            replace FB := lh (FB.out.below hy FB.out.lt)
            replace BT := lh (BT.out.below hy BT.out.lt)
            replace BK := lh (BK.out.below hy BK.out.lt)
            replace BV := lh (BV.out.below hy BV.out.lt)
            replace KB := lh (KB.out.trans (hy.mono KB.out.size))
            replace LB := lh (LB.out.below hy LB.out.lt)
            replace PF := lh (PF.out.below hy PF.out.lt)
            replace PK := lh (PK.out.below hy PK.out.lt)
            clear hy
            have RS := lh (RdP.of_own hx hl0)
            clear hx PF PK
            obtain ⟨sg, scap, hsv⟩ := RdP.shape RS.out
            subst hsv
            refine hK.out _ _ ⟨BT.out, BK.out, TB.out⟩ (fun _ => ?_)
            clear hK KK
            try simp only [Act.put, tS1, tS2, tS3]
            refine tkO 13 (fun KK hK => ?_)
            go_simp
            have pb := Blk.new Y3h4 40 #[.int .u16 0]
            have hy := (Below.refl Y3h4.heap.size Y3h4).alloc (Nat.le_refl _) (.cells #[.int .u16 0] 40)
            obtain ⟨gD, hgD⟩ : ∃ g, g = Y3h4.heap.size := ⟨_, rfl⟩
            have hg0D : V1.heap.size ≤ gD := by rw [hgD]; exact KB.out.size
            replace K := lh (K.out.trans (hy.mono K.out.size))
            replace TB := lh (TB.out.below hy TB.out.lt)
            replace FB := lh (FB.out.below hy FB.out.lt)
            replace BT := lh (BT.out.below hy BT.out.lt)
            replace BK := lh (BK.out.below hy BK.out.lt)
            replace BV := lh (BV.out.below hy BV.out.lt)
            replace KB := lh (KB.out.trans (hy.mono KB.out.size))
            replace LB := lh (LB.out.below hy LB.out.lt)
            replace RS := lh (RS.out.below hy)
            rw [← hgD] at pb ⊢
            have D := lh pb
            clear pb hy hgD
            generalize Y3h4.alloc (.cells #[.int .u16 0] 40) = Y3h5 at *
            refine hK.out _ _ ⟨BT.out, BK.out, TB.out⟩ (fun _ => ?_)
            clear hK KK
            try simp only [Act.put, tS1, tS2, tS3]
            have hPD : gD ≠ gLB := Blk.ne_ty D.out LB.out (by decide)
            refine tkO 15 (fun KK hK => ?_)
            have k1 : Y3h5.cell? ⟨gD, 0, none⟩ = some (.int .u16 0) := D.out.cell 0
            have k2 := D.out.frozen 0
            go_simp
            replace K := lh (K.out.setCell (p := ⟨gD, 0, none⟩) (by show _ ≤ gD; omega) (.int .u16 (dg : Int)))
            replace TB := lh (TB.out.far (p := ⟨gD, 0, none⟩) (by show _ ≠ gD; omega) (.int .u16 (dg : Int)))
            replace FB := lh (FB.out.far (p := ⟨gD, 0, none⟩) (by show _ ≠ gD; omega) (.int .u16 (dg : Int)))
            replace BT := lh (BT.out.far (p := ⟨gD, 0, none⟩) (by show _ ≠ gD; omega) (.int .u16 (dg : Int)))
            replace BK := lh (BK.out.far (p := ⟨gD, 0, none⟩) (by show _ ≠ gD; omega) (.int .u16 (dg : Int)))
            replace BV := lh (BV.out.far (p := ⟨gD, 0, none⟩) (by show _ ≠ gD; omega) (.int .u16 (dg : Int)))
            replace KB := lh (KB.out.setCell (p := ⟨gD, 0, none⟩) (by show _ ≤ gD; omega) (.int .u16 (dg : Int)))
            replace LB := lh (LB.out.far (p := ⟨gD, 0, none⟩) (by show _ ≠ gD; omega) (.int .u16 (dg : Int)))
            replace RS := lh (RS.out.far (p := ⟨gD, 0, none⟩) (by decide) D.out (.int .u16 (dg : Int)))
            replace D := lh (show Blk _ _ 40 #[.int .u16 (dg : Int)] from D.out.set_ 0 (.int .u16 (dg : Int)))
            clear k1 k2
            generalize Y3h5.setCell ⟨gD, 0, none⟩ (.int .u16 (dg : Int)) = Y3h6 at *
            refine hK.out _ _ ⟨BT.out, BK.out, TB.out⟩ (fun _ => ?_)
            clear hK KK
            try simp only [Act.put]
            refine tkO 16 (fun KK hK => ?_)
            have k1 : Y3h6.cell? ⟨gLB, 0, none⟩ = some (.slice none 0 0) := LB.out.cell 0
            have k2 := LB.out.frozen 0
            go_simp
            replace K := lh (K.out.setCell (p := ⟨gLB, 0, none⟩) (by show _ ≤ gLB; omega) ((.slice (some ⟨sg, 0, none⟩) L.length scap)))
            replace TB := lh (TB.out.far (p := ⟨gLB, 0, none⟩) (by show _ ≠ gLB; omega) ((.slice (some ⟨sg, 0, none⟩) L.length scap)))
            replace FB := lh (FB.out.far (p := ⟨gLB, 0, none⟩) (by show _ ≠ gLB; omega) ((.slice (some ⟨sg, 0, none⟩) L.length scap)))
            replace BT := lh (BT.out.far (p := ⟨gLB, 0, none⟩) (by show _ ≠ gLB; omega) ((.slice (some ⟨sg, 0, none⟩) L.length scap)))
            replace BK := lh (BK.out.far (p := ⟨gLB, 0, none⟩) (by show _ ≠ gLB; omega) ((.slice (some ⟨sg, 0, none⟩) L.length scap)))
            replace BV := lh (BV.out.far (p := ⟨gLB, 0, none⟩) (by show _ ≠ gLB; omega) ((.slice (some ⟨sg, 0, none⟩) L.length scap)))
            replace KB := lh (KB.out.setCell (p := ⟨gLB, 0, none⟩) (by show _ ≤ gLB; omega) ((.slice (some ⟨sg, 0, none⟩) L.length scap)))
            replace RS := lh (RS.out.far (p := ⟨gLB, 0, none⟩) (by decide) LB.out ((.slice (some ⟨sg, 0, none⟩) L.length scap)))
            replace D := lh (D.out.far (p := ⟨gLB, 0, none⟩) (by show _ ≠ gLB; omega) ((.slice (some ⟨sg, 0, none⟩) L.length scap)))
            replace LB := lh (show Blk _ _ 75 #[(.slice (some ⟨sg, 0, none⟩) L.length scap)] from LB.out.set_ 0 ((.slice (some ⟨sg, 0, none⟩) L.length scap)))
            clear k1 k2
            generalize Y3h6.setCell ⟨gLB, 0, none⟩ ((.slice (some ⟨sg, 0, none⟩) L.length scap)) = Y3h7 at *
            refine hK.out _ _ ⟨BT.out, BK.out, TB.out⟩ (fun _ => ?_)
            clear hK KK
            try simp only [Act.put]
            refine wpAnyH_done (by kernel_rfl) ?_ _
            simp only [noP]
            go_wp2
            go_meet
            exact ⟨gD, gLB, (.slice (some ⟨sg, 0, none⟩) L.length scap), rfl, rfl, D.out, LB.out, RS.out, hg0D, hg0LB, KB.out⟩
          · skip
            go_simp
            have pb := Blk.new Y3h3 40 #[.int .u16 0]
            have hy := (Below.refl Y3h3.heap.size Y3h3).alloc (Nat.le_refl _) (.cells #[.int .u16 0] 40)
            obtain ⟨gD, hgD⟩ : ∃ g, g = Y3h3.heap.size := ⟨_, rfl⟩
            have hg0D : V1.heap.size ≤ gD := by rw [hgD]; exact KB.out.size
            replace K := lh (K.out.trans (hy.mono K.out.size))
            replace TB := lh (TB.out.below hy TB.out.lt)
            replace FB := lh (FB.out.below hy FB.out.lt)
            replace BT := lh (BT.out.below hy BT.out.lt)
            replace BK := lh (BK.out.below hy BK.out.lt)
            replace BV := lh (BV.out.below hy BV.out.lt)
            replace KB := lh (KB.out.trans (hy.mono KB.out.size))
            replace LB := lh (LB.out.below hy LB.out.lt)
            replace PF := lh (PF.out.below hy PF.out.lt)
            replace PK := lh (PK.out.below hy PK.out.lt)
            rw [← hgD] at pb ⊢
            have D := lh pb
            clear pb hy hgD
            generalize Y3h3.alloc (.cells #[.int .u16 0] 40) = Y3h4 at *
            refine hK.out _ _ ⟨BT.out, BK.out, TB.out⟩ (fun _ => ?_)
            clear hK KK
            try simp only [Act.put, tS1, tS2, tS3]
            refine tkO 12 (fun KK hK => ?_)
            go_simp
            refine (CO.out gI Y3h4 FB.out PF.out PK.out).mono ?_
            rintro e Y3h5 ⟨sv, rfl, hx, hy⟩
            replace K := lh (K.out.trans (hy.mono K.out.size))
            replace TB := lh (TB.out.below hy TB.out.lt)
            replace FB := lh (FB.out.below hy FB.out.lt)
            replace BT := lh (BT.out.below hy BT.out.lt)
            replace BK := lh (BK.out.below hy BK.out.lt)
            replace BV := lh (BV.out.below hy BV.out.lt)
            replace KB := lh (KB.out.trans (hy.mono KB.out.size))
            replace LB := lh (LB.out.below hy LB.out.lt)
            replace PF := lh (PF.out.below hy PF.out.lt)
            replace PK := lh (PK.out.below hy PK.out.lt)
            replace D := lh (D.out.below hy D.out.lt)
            clear hy
            have RS := lh (RdP.of_own hx hl0)
            clear hx PF PK
            obtain ⟨sg, scap, hsv⟩ := RdP.shape RS.out
            subst hsv
            refine hK.out _ _ ⟨BT.out, BK.out, TB.out⟩ (fun _ => ?_)
            clear hK KK
            try simp only [Act.put, tS1, tS2, tS3]
            have hPD : gD ≠ gLB := Blk.ne_ty D.out LB.out (by decide)
            refine tkO 15 (fun KK hK => ?_)
            have k1 : Y3h5.cell? ⟨gD, 0, none⟩ = some (.int .u16 0) := D.out.cell 0
            have k2 := D.out.frozen 0
            go_simp
            replace K := lh (K.out.setCell (p := ⟨gD, 0, none⟩) (by show _ ≤ gD; omega) (.int .u16 (dg : Int)))
            replace TB := lh (TB.out.far (p := ⟨gD, 0, none⟩) (by show _ ≠ gD; omega) (.int .u16 (dg : Int)))
            replace FB := lh (FB.out.far (p := ⟨gD, 0, none⟩) (by show _ ≠ gD; omega) (.int .u16 (dg : Int)))
            replace BT := lh (BT.out.far (p := ⟨gD, 0, none⟩) (by show _ ≠ gD; omega) (.int .u16 (dg : Int)))
            replace BK := lh (BK.out.far (p := ⟨gD, 0, none⟩) (by show _ ≠ gD; omega) (.int .u16 (dg : Int)))
            replace BV := lh (BV.out.far (p := ⟨gD, 0, none⟩) (by show _ ≠ gD; omega) (.int .u16 (dg : Int)))
            replace KB := lh (KB.out.setCell (p := ⟨gD, 0, none⟩) (by show _ ≤ gD; omega) (.int .u16 (dg : Int)))
            replace LB := lh (LB.out.far (p := ⟨gD, 0, none⟩) (by show _ ≠ gD; omega) (.int .u16 (dg : Int)))
            replace RS := lh (RS.out.far (p := ⟨gD, 0, none⟩) (by decide) D.out (.int .u16 (dg : Int)))
            replace D := lh (show Blk _ _ 40 #[.int .u16 (dg : Int)] from D.out.set_ 0 (.int .u16 (dg : Int)))
            clear k1 k2
            generalize Y3h5.setCell ⟨gD, 0, none⟩ (.int .u16 (dg : Int)) = Y3h6 at *
            refine hK.out _ _ ⟨BT.out, BK.out, TB.out⟩ (fun _ => ?_)
            clear hK KK
            try simp only [Act.put]
            refine tkO 16 (fun KK hK => ?_)
            have k1 : Y3h6.cell? ⟨gLB, 0, none⟩ = some (.slice none 0 0) := LB.out.cell 0
            have k2 := LB.out.frozen 0
            go_simp
            replace K := lh (K.out.setCell (p := ⟨gLB, 0, none⟩) (by show _ ≤ gLB; omega) ((.slice (some ⟨sg, 0, none⟩) L.length scap)))
            replace TB := lh (TB.out.far (p := ⟨gLB, 0, none⟩) (by show _ ≠ gLB; omega) ((.slice (some ⟨sg, 0, none⟩) L.length scap)))
            replace FB := lh (FB.out.far (p := ⟨gLB, 0, none⟩) (by show _ ≠ gLB; omega) ((.slice (some ⟨sg, 0, none⟩) L.length scap)))
            replace BT := lh (BT.out.far (p := ⟨gLB, 0, none⟩) (by show _ ≠ gLB; omega) ((.slice (some ⟨sg, 0, none⟩) L.length scap)))
            replace BK := lh (BK.out.far (p := ⟨gLB, 0, none⟩) (by show _ ≠ gLB; omega) ((.slice (some ⟨sg, 0, none⟩) L.length scap)))
            replace BV := lh (BV.out.far (p := ⟨gLB, 0, none⟩) (by show _ ≠ gLB; omega) ((.slice (some ⟨sg, 0, none⟩) L.length scap)))
            replace KB := lh (KB.out.setCell (p := ⟨gLB, 0, none⟩) (by show _ ≤ gLB; omega) ((.slice (some ⟨sg, 0, none⟩) L.length scap)))
            replace D := lh (D.out.far (p := ⟨gLB, 0, none⟩) (by show _ ≠ gLB; omega) ((.slice (some ⟨sg, 0, none⟩) L.length scap)))
            replace RS := lh (RS.out.far (p := ⟨gLB, 0, none⟩) (by decide) LB.out ((.slice (some ⟨sg, 0, none⟩) L.length scap)))
            replace LB := lh (show Blk _ _ 75 #[(.slice (some ⟨sg, 0, none⟩) L.length scap)] from LB.out.set_ 0 ((.slice (some ⟨sg, 0, none⟩) L.length scap)))
            clear k1 k2
            generalize Y3h6.setCell ⟨gLB, 0, none⟩ ((.slice (some ⟨sg, 0, none⟩) L.length scap)) = Y3h7 at *
            refine hK.out _ _ ⟨BT.out, BK.out, TB.out⟩ (fun _ => ?_)
            clear hK KK
            try simp only [Act.put]
            refine wpAnyH_done (by kernel_rfl) ?_ _
            simp only [noP]
            go_wp2
            go_meet
            exact ⟨gD, gLB, (.slice (some ⟨sg, 0, none⟩) L.length scap), rfl, rfl, D.out, LB.out, RS.out, hg0D, hg0LB, KB.out⟩
        · skip
          go_simp
          have pb := Blk.new Y3h2 40 #[.int .u16 0]
          have hy := (Below.refl Y3h2.heap.size Y3h2).alloc (Nat.le_refl _) (.cells #[.int .u16 0] 40)
          obtain ⟨gD, hgD⟩ : ∃ g, g = Y3h2.heap.size := ⟨_, rfl⟩
          have hg0D : V1.heap.size ≤ gD := by rw [hgD]; exact KB.out.size
          replace K := lh (K.out.trans (hy.mono K.out.size))
          replace TB := lh (TB.out.below hy TB.out.lt)
          replace FB := lh (FB.out.below hy FB.out.lt)
          replace BT := lh (BT.out.below hy BT.out.lt)
          replace BK := lh (BK.out.below hy BK.out.lt)
          replace BV := lh (BV.out.below hy BV.out.lt)
          replace KB := lh (KB.out.trans (hy.mono KB.out.size))
          replace LB := lh (LB.out.below hy LB.out.lt)
          rw [← hgD] at pb ⊢
          have D := lh pb
          clear pb hy hgD
          generalize Y3h2.alloc (.cells #[.int .u16 0] 40) = Y3h3 at *
          refine hK.out _ _ ⟨BT.out, BK.out, TB.out⟩ (fun _ => ?_)
          clear hK KK
          try simp only [Act.put, tS1, tS2, tS3]
          refine tkO 11 (fun KK hK => ?_)
          obtain ⟨gI, hgI⟩ : ∃ g, g = Y3h3.heap.size := ⟨_, rfl⟩
          have hgI0 : V1.heap.size ≤ gI := by rw [hgI]; exact KB.out.size
          go_simp
          refine (CPL.out Y3h3).mono ?_
          rintro e Y3h4 ⟨rfl, h1, h2, hy⟩
          replace K := lh (K.out.trans (hy.mono K.out.size))
          replace TB := lh (TB.out.below hy TB.out.lt)
          replace FB := lh (FB.out.below hy FB.out.lt)
          replace BT := lh (BT.out.below hy BT.out.lt)
          replace BK := lh (BK.out.below hy BK.out.lt)
          replace BV := lh (BV.out.below hy BV.out.lt)
          replace KB := lh (KB.out.trans (hy.mono KB.out.size))
          replace LB := lh (LB.out.below hy LB.out.lt)
          replace D := lh (D.out.below hy D.out.lt)
          clear hy
          rw [← hgI] at h1 h2 ⊢
          have PF := lh (show Blk _ gI 68 #[.pointer (some ⟨fn, 0, none⟩)] from h1)
          have PK := lh h2
          clear h1 h2 hgI
          refine hK.out _ _ ⟨BT.out, BK.out, TB.out⟩ (fun _ => ?_)
          clear hK KK
          try simp only [Act.put, tS1, tS2, tS3]
          refine tkO 12 (fun KK hK => ?_)
          go_simp
          refine (CO.out gI Y3h4 FB.out PF.out PK.out).mono ?_
          rintro e Y3h5 ⟨sv, rfl, hx, hy⟩
          replace K := lh (K.out.trans (hy.mono K.out.size))
          replace TB := lh (TB.out.below hy TB.out.lt)
          replace FB := lh (FB.out.below hy FB.out.lt)
          replace BT := lh (BT.out.below hy BT.out.lt)
          replace BK := lh (BK.out.below hy BK.out.lt)
          replace BV := lh (BV.out.below hy BV.out.lt)
          replace KB := lh (KB.out.trans (hy.mono KB.out.size))
          replace LB := lh (LB.out.below hy LB.out.lt)
          replace D := lh (D.out.below hy D.out.lt)
          replace PF := lh (PF.out.below hy PF.out.lt)
          replace PK := lh (PK.out.below hy PK.out.lt)
          clear hy
          have RS := lh (RdP.of_own hx hl0)
          clear hx PF PK
          obtain ⟨sg, scap, hsv⟩ := RdP.shape RS.out
          subst hsv
          refine hK.out _ _ ⟨BT.out, BK.out, TB.out⟩ (fun _ => ?_)
          clear hK KK
          try simp only [Act.put, tS1, tS2, tS3]
          have hPD : gD ≠ gLB := Blk.ne_ty D.out LB.out (by decide)
          refine tkO 15 (fun KK hK => ?_)
          have k1 : Y3h5.cell? ⟨gD, 0, none⟩ = some (.int .u16 0) := D.out.cell 0
          have k2 := D.out.frozen 0
          go_simp
          replace K := lh (K.out.setCell (p := ⟨gD, 0, none⟩) (by show _ ≤ gD; omega) (.int .u16 (dg : Int)))
          replace TB := lh (TB.out.far (p := ⟨gD, 0, none⟩) (by show _ ≠ gD; omega) (.int .u16 (dg : Int)))
          replace FB := lh (FB.out.far (p := ⟨gD, 0, none⟩) (by show _ ≠ gD; omega) (.int .u16 (dg : Int)))
          replace BT := lh (BT.out.far (p := ⟨gD, 0, none⟩) (by show _ ≠ gD; omega) (.int .u16 (dg : Int)))
          replace BK := lh (BK.out.far (p := ⟨gD, 0, none⟩) (by show _ ≠ gD; omega) (.int .u16 (dg : Int)))
          replace BV := lh (BV.out.far (p := ⟨gD, 0, none⟩) (by show _ ≠ gD; omega) (.int .u16 (dg : Int)))
          replace KB := lh (KB.out.setCell (p := ⟨gD, 0, none⟩) (by show _ ≤ gD; omega) (.int .u16 (dg : Int)))
          replace LB := lh (LB.out.far (p := ⟨gD, 0, none⟩) (by show _ ≠ gD; omega) (.int .u16 (dg : Int)))
          replace RS := lh (RS.out.far (p := ⟨gD, 0, none⟩) (by decide) D.out (.int .u16 (dg : Int)))
          replace D := lh (show Blk _ _ 40 #[.int .u16 (dg : Int)] from D.out.set_ 0 (.int .u16 (dg : Int)))
          clear k1 k2
          generalize Y3h5.setCell ⟨gD, 0, none⟩ (.int .u16 (dg : Int)) = Y3h6 at *
          refine hK.out _ _ ⟨BT.out, BK.out, TB.out⟩ (fun _ => ?_)
          clear hK KK
          try simp only [Act.put]
          refine tkO 16 (fun KK hK => ?_)
          have k1 : Y3h6.cell? ⟨gLB, 0, none⟩ = some (.slice none 0 0) := LB.out.cell 0
          have k2 := LB.out.frozen 0
          go_simp
          replace K := lh (K.out.setCell (p := ⟨gLB, 0, none⟩) (by show _ ≤ gLB; omega) ((.slice (some ⟨sg, 0, none⟩) L.length scap)))
          replace TB := lh (TB.out.far (p := ⟨gLB, 0, none⟩) (by show _ ≠ gLB; omega) ((.slice (some ⟨sg, 0, none⟩) L.length scap)))
          replace FB := lh (FB.out.far (p := ⟨gLB, 0, none⟩) (by show _ ≠ gLB; omega) ((.slice (some ⟨sg, 0, none⟩) L.length scap)))
          replace BT := lh (BT.out.far (p := ⟨gLB, 0, none⟩) (by show _ ≠ gLB; omega) ((.slice (some ⟨sg, 0, none⟩) L.length scap)))
          replace BK := lh (BK.out.far (p := ⟨gLB, 0, none⟩) (by show _ ≠ gLB; omega) ((.slice (some ⟨sg, 0, none⟩) L.length scap)))
          replace BV := lh (BV.out.far (p := ⟨gLB, 0, none⟩) (by show _ ≠ gLB; omega) ((.slice (some ⟨sg, 0, none⟩) L.length scap)))
          replace KB := lh (KB.out.setCell (p := ⟨gLB, 0, none⟩) (by show _ ≤ gLB; omega) ((.slice (some ⟨sg, 0, none⟩) L.length scap)))
          replace D := lh (D.out.far (p := ⟨gLB, 0, none⟩) (by show _ ≠ gLB; omega) ((.slice (some ⟨sg, 0, none⟩) L.length scap)))
          replace RS := lh (RS.out.far (p := ⟨gLB, 0, none⟩) (by decide) LB.out ((.slice (some ⟨sg, 0, none⟩) L.length scap)))
          replace LB := lh (show Blk _ _ 75 #[(.slice (some ⟨sg, 0, none⟩) L.length scap)] from LB.out.set_ 0 ((.slice (some ⟨sg, 0, none⟩) L.length scap)))
          clear k1 k2
          generalize Y3h6.setCell ⟨gLB, 0, none⟩ ((.slice (some ⟨sg, 0, none⟩) L.length scap)) = Y3h7 at *
          refine hK.out _ _ ⟨BT.out, BK.out, TB.out⟩ (fun _ => ?_)
          clear hK KK
          try simp only [Act.put]
          refine wpAnyH_done (by kernel_rfl) ?_ _
          simp only [noP]
          go_wp2
          go_meet
          exact ⟨gD, gLB, (.slice (some ⟨sg, 0, none⟩) L.length scap), rfl, rfl, D.out, LB.out, RS.out, hg0D, hg0LB, KB.out⟩
    · skip
      go_simp
      have pb := Blk.new Y3h0 40 #[.int .u16 0]
      have hy := (Below.refl Y3h0.heap.size Y3h0).alloc (Nat.le_refl _) (.cells #[.int .u16 0] 40)
      obtain ⟨gD, hgD⟩ : ∃ g, g = Y3h0.heap.size := ⟨_, rfl⟩
      have hg0D : V1.heap.size ≤ gD := by rw [hgD]; exact KB.out.size
      replace K := lh (K.out.trans (hy.mono K.out.size))
      replace TB := lh (TB.out.below hy TB.out.lt)
      replace FB := lh (FB.out.below hy FB.out.lt)
      replace BT := lh (BT.out.below hy BT.out.lt)
      replace BK := lh (BK.out.below hy BK.out.lt)
      replace BV := lh (BV.out.below hy BV.out.lt)
      replace KB := lh (KB.out.trans (hy.mono KB.out.size))
      rw [← hgD] at pb ⊢
      have D := lh pb
      clear pb hy hgD
      generalize Y3h0.alloc (.cells #[.int .u16 0] 40) = Y3h1 at *
      refine hK.out _ _ ⟨BT.out, BK.out, TB.out⟩ (fun _ => ?_)
      clear hK KK
      try simp only [Act.put, tS1, tS2, tS3]
      refine tkB 5 14 (fun KK hK => ?_) (fun KK hK => ?_)
      · skip
        go_simp
        refine (CD.out Y3h1 FB.out).mono ?_
        rintro e Y3h2 ⟨rfl, hy⟩
        replace K := lh (K.out.trans (hy.mono K.out.size))
        replace TB := lh (TB.out.below hy TB.out.lt)
        replace FB := lh (FB.out.below hy FB.out.lt)
        replace BT := lh (BT.out.below hy BT.out.lt)
        replace BK := lh (BK.out.below hy BK.out.lt)
        replace BV := lh (BV.out.below hy BV.out.lt)
        replace KB := lh (KB.out.trans (hy.mono KB.out.size))
        replace D := lh (D.out.below hy D.out.lt)
        clear hy
        refine hK.out _ _ ⟨BT.out, BK.out, TB.out⟩ (fun _ => ?_)
        clear hK KK
        try simp only [Act.put, tS1, tS2, tS3]
        refine tkB 11 14 (fun KK hK => ?_) (fun KK hK => ?_)
        · skip
          obtain ⟨gI, hgI⟩ : ∃ g, g = Y3h2.heap.size := ⟨_, rfl⟩
          have hgI0 : V1.heap.size ≤ gI := by rw [hgI]; exact KB.out.size
          go_simp
          refine (CPL.out Y3h2).mono ?_
          rintro e Y3h3 ⟨rfl, h1, h2, hy⟩
          replace K := lh (K.out.trans (hy.mono K.out.size))
          replace TB := lh (TB.out.below hy TB.out.lt)
          replace FB := lh (FB.out.below hy FB.out.lt)
          replace BT := lh (BT.out.below hy BT.out.lt)
          replace BK := lh (BK.out.below hy BK.out.lt)
          replace BV := lh (BV.out.below hy BV.out.lt)
          replace KB := lh (KB.out.trans (hy.mono KB.out.size))
          replace D := lh (D.out.below hy D.out.lt)
          clear hy
          rw [← hgI] at h1 h2 ⊢
          have PF := lh (show Blk _ gI 68 #[.pointer (some ⟨fn, 0, none⟩)] from h1)
          have PK := lh h2
          clear h1 h2 hgI
          refine hK.out _ _ ⟨BT.out, BK.out, TB.out⟩ (fun _ => ?_)
          clear hK KK
          try simp only [Act.put, tS1, tS2, tS3]
          refine tkB 12 14 (fun KK hK => ?_) (fun KK hK => ?_)
          · skip
            go_simp
            refine (CO.out gI Y3h3 FB.out PF.out PK.out).mono ?_
            rintro e Y3h4 ⟨sv, rfl, hx, hy⟩
            replace K := lh (K.out.trans (hy.mono K.out.size))
            replace TB := lh (TB.out.below hy TB.out.lt)
            replace FB := lh (FB.out.below hy FB.out.lt)
            replace BT := lh (BT.out.below hy BT.out.lt)
            replace BK := lh (BK.out.below hy BK.out.lt)
            replace BV := lh (BV.out.below hy BV.out.lt)
            replace KB := lh (KB.out.trans (hy.mono KB.out.size))
            replace D := lh (D.out.below hy D.out.lt)
            replace PF := lh (PF.out.below hy PF.out.lt)
            replace PK := lh (PK.out.below hy PK.out.lt)
            clear hy
            have RS := lh (RdP.of_own hx hl0)
            clear hx PF PK
            obtain ⟨sg, scap, hsv⟩ := RdP.shape RS.out
            subst hsv
            refine hK.out _ _ ⟨BT.out, BK.out, TB.out⟩ (fun _ => ?_)
            clear hK KK
            try simp only [Act.put, tS1, tS2, tS3]
            refine tkO 14 (fun KK hK => ?_)
            go_simp
            have pb := Blk.new Y3h4 75 #[.slice none 0 0]
            have hy := (Below.refl Y3h4.heap.size Y3h4).alloc (Nat.le_refl _) (.cells #[.slice none 0 0] 75)
            obtain ⟨gLB, hgLB⟩ : ∃ g, g = Y3h4.heap.size := ⟨_, rfl⟩
            have hg0LB : V1.heap.size ≤ gLB := by rw [hgLB]; exact KB.out.size
            replace K := lh (K.out.trans (hy.mono K.out.size))
            replace TB := lh (TB.out.below hy TB.out.lt)
            replace FB := lh (FB.out.below hy FB.out.lt)
            replace BT := lh (BT.out.below hy BT.out.lt)
            replace BK := lh (BK.out.below hy BK.out.lt)
            replace BV := lh (BV.out.below hy BV.out.lt)
            replace KB := lh (KB.out.trans (hy.mono KB.out.size))
            replace D := lh (D.out.below hy D.out.lt)
            replace RS := lh (RS.out.below hy)
            rw [← hgLB] at pb ⊢
            have LB := lh pb
            clear pb hy hgLB
            generalize Y3h4.alloc (.cells #[.slice none 0 0] 75) = Y3h5 at *
            refine hK.out _ _ ⟨BT.out, BK.out, TB.out⟩ (fun _ => ?_)
            clear hK KK
            try simp only [Act.put, tS1, tS2, tS3]
            have hPD : gD ≠ gLB := Blk.ne_ty D.out LB.out (by decide)
            refine tkO 15 (fun KK hK => ?_)
            have k1 : Y3h5.cell? ⟨gD, 0, none⟩ = some (.int .u16 0) := D.out.cell 0
            have k2 := D.out.frozen 0
            go_simp
            replace K := lh (K.out.setCell (p := ⟨gD, 0, none⟩) (by show _ ≤ gD; omega) (.int .u16 (dg : Int)))
            replace TB := lh (TB.out.far (p := ⟨gD, 0, none⟩) (by show _ ≠ gD; omega) (.int .u16 (dg : Int)))
            replace FB := lh (FB.out.far (p := ⟨gD, 0, none⟩) (by show _ ≠ gD; omega) (.int .u16 (dg : Int)))
            replace BT := lh (BT.out.far (p := ⟨gD, 0, none⟩) (by show _ ≠ gD; omega) (.int .u16 (dg : Int)))
            replace BK := lh (BK.out.far (p := ⟨gD, 0, none⟩) (by show _ ≠ gD; omega) (.int .u16 (dg : Int)))
            replace BV := lh (BV.out.far (p := ⟨gD, 0, none⟩) (by show _ ≠ gD; omega) (.int .u16 (dg : Int)))
            replace KB := lh (KB.out.setCell (p := ⟨gD, 0, none⟩) (by show _ ≤ gD; omega) (.int .u16 (dg : Int)))
            replace RS := lh (RS.out.far (p := ⟨gD, 0, none⟩) (by decide) D.out (.int .u16 (dg : Int)))
            replace LB := lh (LB.out.far (p := ⟨gD, 0, none⟩) (by show _ ≠ gD; omega) (.int .u16 (dg : Int)))
            replace D := lh (show Blk _ _ 40 #[.int .u16 (dg : Int)] from D.out.set_ 0 (.int .u16 (dg : Int)))
            clear k1 k2
            generalize Y3h5.setCell ⟨gD, 0, none⟩ (.int .u16 (dg : Int)) = Y3h6 at *
            refine hK.out _ _ ⟨BT.out, BK.out, TB.out⟩ (fun _ => ?_)
            clear hK KK
            try simp only [Act.put]
            refine tkO 16 (fun KK hK => ?_)
            have k1 : Y3h6.cell? ⟨gLB, 0, none⟩ = some (.slice none 0 0) := LB.out.cell 0
            have k2 := LB.out.frozen 0
            go_simp
            replace K := lh (K.out.setCell (p := ⟨gLB, 0, none⟩) (by show _ ≤ gLB; omega) ((.slice (some ⟨sg, 0, none⟩) L.length scap)))
            replace TB := lh (TB.out.far (p := ⟨gLB, 0, none⟩) (by show _ ≠ gLB; omega) ((.slice (some ⟨sg, 0, none⟩) L.length scap)))
            replace FB := lh (FB.out.far (p := ⟨gLB, 0, none⟩) (by show _ ≠ gLB; omega) ((.slice (some ⟨sg, 0, none⟩) L.length scap)))
            replace BT := lh (BT.out.far (p := ⟨gLB, 0, none⟩) (by show _ ≠ gLB; omega) ((.slice (some ⟨sg, 0, none⟩) L.length scap)))
            replace BK := lh (BK.out.far (p := ⟨gLB, 0, none⟩) (by show _ ≠ gLB; omega) ((.slice (some ⟨sg, 0, none⟩) L.length scap)))
            replace BV := lh (BV.out.far (p := ⟨gLB, 0, none⟩) (by show _ ≠ gLB; omega) ((.slice (some ⟨sg, 0, none⟩) L.length scap)))
            replace KB := lh (KB.out.setCell (p := ⟨gLB, 0, none⟩) (by show _ ≤ gLB; omega) ((.slice (some ⟨sg, 0, none⟩) L.length scap)))
            replace D := lh (D.out.far (p := ⟨gLB, 0, none⟩) (by show _ ≠ gLB; omega) ((.slice (some ⟨sg, 0, none⟩) L.length scap)))
            replace RS := lh (RS.out.far (p := ⟨gLB, 0, none⟩) (by decide) LB.out ((.slice (some ⟨sg, 0, none⟩) L.length scap)))
            replace LB := lh (show Blk _ _ 75 #[(.slice (some ⟨sg, 0, none⟩) L.length scap)] from LB.out.set_ 0 ((.slice (some ⟨sg, 0, none⟩) L.length scap)))
            clear k1 k2
            generalize Y3h6.setCell ⟨gLB, 0, none⟩ ((.slice (some ⟨sg, 0, none⟩) L.length scap)) = Y3h7 at *
            refine hK.out _ _ ⟨BT.out, BK.out, TB.out⟩ (fun _ => ?_)
            clear hK KK
            try simp only [Act.put]
            refine wpAnyH_done (by kernel_rfl) ?_ _
            simp only [noP]
            go_wp2
            go_meet
            exact ⟨gD, gLB, (.slice (some ⟨sg, 0, none⟩) L.length scap), rfl, rfl, D.out, LB.out, RS.out, hg0D, hg0LB, KB.out⟩
          · skip
            go_simp
            have pb := Blk.new Y3h3 75 #[.slice none 0 0]
            have hy := (Below.refl Y3h3.heap.size Y3h3).alloc (Nat.le_refl _) (.cells #[.slice none 0 0] 75)
            obtain ⟨gLB, hgLB⟩ : ∃ g, g = Y3h3.heap.size := ⟨_, rfl⟩
            have hg0LB : V1.heap.size ≤ gLB := by rw [hgLB]; exact KB.out.size
            replace K := lh (K.out.trans (hy.mono K.out.size))
            replace TB := lh (TB.out.below hy TB.out.lt)
            replace FB := lh (FB.out.below hy FB.out.lt)
            replace BT := lh (BT.out.below hy BT.out.lt)
            replace BK := lh (BK.out.below hy BK.out.lt)
            replace BV := lh (BV.out.below hy BV.out.lt)
            replace KB := lh (KB.out.trans (hy.mono KB.out.size))
            replace D := lh (D.out.below hy D.out.lt)
            replace PF := lh (PF.out.below hy PF.out.lt)
            replace PK := lh (PK.out.below hy PK.out.lt)
            rw [← hgLB] at pb ⊢
            have LB := lh pb
            clear pb hy hgLB
            generalize Y3h3.alloc (.cells #[.slice none 0 0] 75) = Y3h4 at *
            refine hK.out _ _ ⟨BT.out, BK.out, TB.out⟩ (fun _ => ?_)
            clear hK KK
            try simp only [Act.put, tS1, tS2, tS3]
            refine tkO 12 (fun KK hK => ?_)
            go_simp
            refine (CO.out gI Y3h4 FB.out PF.out PK.out).mono ?_
            rintro e Y3h5 ⟨sv, rfl, hx, hy⟩
            replace K := lh (K.out.trans (hy.mono K.out.size))
            replace TB := lh (TB.out.below hy TB.out.lt)
            replace FB := lh (FB.out.below hy FB.out.lt)
            replace BT := lh (BT.out.below hy BT.out.lt)
            replace BK := lh (BK.out.below hy BK.out.lt)
            replace BV := lh (BV.out.below hy BV.out.lt)
            replace KB := lh (KB.out.trans (hy.mono KB.out.size))
            replace D := lh (D.out.below hy D.out.lt)
            replace PF := lh (PF.out.below hy PF.out.lt)
            replace PK := lh (PK.out.below hy PK.out.lt)
            replace LB := lh (LB.out.below hy LB.out.lt)
            clear hy
            have RS := lh (RdP.of_own hx hl0)
            clear hx PF PK
            obtain ⟨sg, scap, hsv⟩ := RdP.shape RS.out
            subst hsv
            refine hK.out _ _ ⟨BT.out, BK.out, TB.out⟩ (fun _ => ?_)
            clear hK KK
            try simp only [Act.put, tS1, tS2, tS3]
            have hPD : gD ≠ gLB := Blk.ne_ty D.out LB.out (by decide)
            refine tkO 15 (fun KK hK => ?_)
            have k1 : Y3h5.cell? ⟨gD, 0, none⟩ = some (.int .u16 0) := D.out.cell 0
            have k2 := D.out.frozen 0
            go_simp
            replace K := lh (K.out.setCell (p := ⟨gD, 0, none⟩) (by show _ ≤ gD; omega) (.int .u16 (dg : Int)))
            replace TB := lh (TB.out.far (p := ⟨gD, 0, none⟩) (by show _ ≠ gD; omega) (.int .u16 (dg : Int)))
            replace FB := lh (FB.out.far (p := ⟨gD, 0, none⟩) (by show _ ≠ gD; omega) (.int .u16 (dg : Int)))
            replace BT := lh (BT.out.far (p := ⟨gD, 0, none⟩) (by show _ ≠ gD; omega) (.int .u16 (dg : Int)))
            replace BK := lh (BK.out.far (p := ⟨gD, 0, none⟩) (by show _ ≠ gD; omega) (.int .u16 (dg : Int)))
            replace BV := lh (BV.out.far (p := ⟨gD, 0, none⟩) (by show _ ≠ gD; omega) (.int .u16 (dg : Int)))
            replace KB := lh (KB.out.setCell (p := ⟨gD, 0, none⟩) (by show _ ≤ gD; omega) (.int .u16 (dg : Int)))
            replace LB := lh (LB.out.far (p := ⟨gD, 0, none⟩) (by show _ ≠ gD; omega) (.int .u16 (dg : Int)))
            replace RS := lh (RS.out.far (p := ⟨gD, 0, none⟩) (by decide) D.out (.int .u16 (dg : Int)))
            replace D := lh (show Blk _ _ 40 #[.int .u16 (dg : Int)] from D.out.set_ 0 (.int .u16 (dg : Int)))
            clear k1 k2
            generalize Y3h5.setCell ⟨gD, 0, none⟩ (.int .u16 (dg : Int)) = Y3h6 at *
            refine hK.out _ _ ⟨BT.out, BK.out, TB.out⟩ (fun _ => ?_)
            clear hK KK
            try simp only [Act.put]
            refine tkO 16 (fun KK hK => ?_)
            have k1 : Y3h6.cell? ⟨gLB, 0, none⟩ = some (.slice none 0 0) := LB.out.cell 0
            have k2 := LB.out.frozen 0
            go_simp
            replace K := lh (K.out.setCell (p := ⟨gLB, 0, none⟩) (by show _ ≤ gLB; omega) ((.slice (some ⟨sg, 0, none⟩) L.length scap)))
            replace TB := lh (TB.out.far (p := ⟨gLB, 0, none⟩) (by show _ ≠ gLB; omega) ((.slice (some ⟨sg, 0, none⟩) L.length scap)))
            replace FB := lh (FB.out.far (p := ⟨gLB, 0, none⟩) (by show _ ≠ gLB; omega) ((.slice (some ⟨sg, 0, none⟩) L.length scap)))
            replace BT := lh (BT.out.far (p := ⟨gLB, 0, none⟩) (by show _ ≠ gLB; omega) ((.slice (some ⟨sg, 0, none⟩) L.length scap)))
            replace BK := lh (BK.out.far (p := ⟨gLB, 0, none⟩) (by show _ ≠ gLB; omega) ((.slice (some ⟨sg, 0, none⟩) L.length scap)))
            replace BV := lh (BV.out.far (p := ⟨gLB, 0, none⟩) (by show _ ≠ gLB; omega) ((.slice (some ⟨sg, 0, none⟩) L.length scap)))
            replace KB := lh (KB.out.setCell (p := ⟨gLB, 0, none⟩) (by show _ ≤ gLB; omega) ((.slice (some ⟨sg, 0, none⟩) L.length scap)))
            replace D := lh (D.out.far (p := ⟨gLB, 0, none⟩) (by show _ ≠ gLB; omega) ((.slice (some ⟨sg, 0, none⟩) L.length scap)))
            replace RS := lh (RS.out.far (p := ⟨gLB, 0, none⟩) (by decide) LB.out ((.slice (some ⟨sg, 0, none⟩) L.length scap)))
            replace LB := lh (show Blk _ _ 75 #[(.slice (some ⟨sg, 0, none⟩) L.length scap)] from LB.out.set_ 0 ((.slice (some ⟨sg, 0, none⟩) L.length scap)))
            clear k1 k2
            generalize Y3h6.setCell ⟨gLB, 0, none⟩ ((.slice (some ⟨sg, 0, none⟩) L.length scap)) = Y3h7 at *
            refine hK.out _ _ ⟨BT.out, BK.out, TB.out⟩ (fun _ => ?_)
            clear hK KK
            try simp only [Act.put]
            refine wpAnyH_done (by kernel_rfl) ?_ _
            simp only [noP]
            go_wp2
            go_meet
            exact ⟨gD, gLB, (.slice (some ⟨sg, 0, none⟩) L.length scap), rfl, rfl, D.out, LB.out, RS.out, hg0D, hg0LB, KB.out⟩
        · skip
          go_simp
          have pb := Blk.new Y3h2 75 #[.slice none 0 0]
          have hy := (Below.refl Y3h2.heap.size Y3h2).alloc (Nat.le_refl _) (.cells #[.slice none 0 0] 75)
          obtain ⟨gLB, hgLB⟩ : ∃ g, g = Y3h2.heap.size := ⟨_, rfl⟩
          have hg0LB : V1.heap.size ≤ gLB := by rw [hgLB]; exact KB.out.size
          replace K := lh (K.out.trans (hy.mono K.out.size))
          replace TB := lh (TB.out.below hy TB.out.lt)
          replace FB := lh (FB.out.below hy FB.out.lt)
          replace BT := lh (BT.out.below hy BT.out.lt)
          replace BK := lh (BK.out.below hy BK.out.lt)
          replace BV := lh (BV.out.below hy BV.out.lt)
          replace KB := lh (KB.out.trans (hy.mono KB.out.size))
          replace D := lh (D.out.below hy D.out.lt)
          rw [← hgLB] at pb ⊢
          have LB := lh pb
          clear pb hy hgLB
          generalize Y3h2.alloc (.cells #[.slice none 0 0] 75) = Y3h3 at *
          refine hK.out _ _ ⟨BT.out, BK.out, TB.out⟩ (fun _ => ?_)
          clear hK KK
          try simp only [Act.put, tS1, tS2, tS3]
          refine tkO 11 (fun KK hK => ?_)
          obtain ⟨gI, hgI⟩ : ∃ g, g = Y3h3.heap.size := ⟨_, rfl⟩
          have hgI0 : V1.heap.size ≤ gI := by rw [hgI]; exact KB.out.size
          go_simp
          refine (CPL.out Y3h3).mono ?_
          rintro e Y3h4 ⟨rfl, h1, h2, hy⟩
          replace K := lh (K.out.trans (hy.mono K.out.size))
          replace TB := lh (TB.out.below hy TB.out.lt)
          replace FB := lh (FB.out.below hy FB.out.lt)
          replace BT := lh (BT.out.below hy BT.out.lt)
          replace BK := lh (BK.out.below hy BK.out.lt)
          replace BV := lh (BV.out.below hy BV.out.lt)
          replace KB := lh (KB.out.trans (hy.mono KB.out.size))
          replace D := lh (D.out.below hy D.out.lt)
          replace LB := lh (LB.out.below hy LB.out.lt)
          clear hy
          rw [← hgI] at h1 h2 ⊢
          have PF := lh (show Blk _ gI 68 #[.pointer (some ⟨fn, 0, none⟩)] from h1)
          have PK := lh h2
          clear h1 h2 hgI
          refine hK.out _ _ ⟨BT.out, BK.out, TB.out⟩ (fun _ => ?_)
          clear hK KK
          try simp only [Act.put, tS1, tS2, tS3]
          refine tkO 12 (fun KK hK => ?_)
          go_simp
          refine (CO.out gI Y3h4 FB.out PF.out PK.out).mono ?_
          rintro e Y3h5 ⟨sv, rfl, hx, hy⟩
          replace K := lh (K.out.trans (hy.mono K.out.size))
          replace TB := lh (TB.out.below hy TB.out.lt)
          replace FB := lh (FB.out.below hy FB.out.lt)
          replace BT := lh (BT.out.below hy BT.out.lt)
          replace BK := lh (BK.out.below hy BK.out.lt)
          replace BV := lh (BV.out.below hy BV.out.lt)
          replace KB := lh (KB.out.trans (hy.mono KB.out.size))
          replace D := lh (D.out.below hy D.out.lt)
          replace LB := lh (LB.out.below hy LB.out.lt)
          replace PF := lh (PF.out.below hy PF.out.lt)
          replace PK := lh (PK.out.below hy PK.out.lt)
          clear hy
          have RS := lh (RdP.of_own hx hl0)
          clear hx PF PK
          obtain ⟨sg, scap, hsv⟩ := RdP.shape RS.out
          subst hsv
          refine hK.out _ _ ⟨BT.out, BK.out, TB.out⟩ (fun _ => ?_)
          clear hK KK
          try simp only [Act.put, tS1, tS2, tS3]
          have hPD : gD ≠ gLB := Blk.ne_ty D.out LB.out (by decide)
          refine tkO 15 (fun KK hK => ?_)
          have k1 : Y3h5.cell? ⟨gD, 0, none⟩ = some (.int .u16 0) := D.out.cell 0
          have k2 := D.out.frozen 0
          go_simp
          replace K := lh (K.out.setCell (p := ⟨gD, 0, none⟩) (by show _ ≤ gD; omega) (.int .u16 (dg : Int)))
          replace TB := lh (TB.out.far (p := ⟨gD, 0, none⟩) (by show _ ≠ gD; omega) (.int .u16 (dg : Int)))
          replace FB := lh (FB.out.far (p := ⟨gD, 0, none⟩) (by show _ ≠ gD; omega) (.int .u16 (dg : Int)))
          replace BT := lh (BT.out.far (p := ⟨gD, 0, none⟩) (by show _ ≠ gD; omega) (.int .u16 (dg : Int)))
          replace BK := lh (BK.out.far (p := ⟨gD, 0, none⟩) (by show _ ≠ gD; omega) (.int .u16 (dg : Int)))
          replace BV := lh (BV.out.far (p := ⟨gD, 0, none⟩) (by show _ ≠ gD; omega) (.int .u16 (dg : Int)))
          replace KB := lh (KB.out.setCell (p := ⟨gD, 0, none⟩) (by show _ ≤ gD; omega) (.int .u16 (dg : Int)))
          replace LB := lh (LB.out.far (p := ⟨gD, 0, none⟩) (by show _ ≠ gD; omega) (.int .u16 (dg : Int)))
          replace RS := lh (RS.out.far (p := ⟨gD, 0, none⟩) (by decide) D.out (.int .u16 (dg : Int)))
          replace D := lh (show Blk _ _ 40 #[.int .u16 (dg : Int)] from D.out.set_ 0 (.int .u16 (dg : Int)))
          clear k1 k2
          generalize Y3h5.setCell ⟨gD, 0, none⟩ (.int .u16 (dg : Int)) = Y3h6 at *
          refine hK.out _ _ ⟨BT.out, BK.out, TB.out⟩ (fun _ => ?_)
          clear hK KK
          try simp only [Act.put]
          refine tkO 16 (fun KK hK => ?_)
          have k1 : Y3h6.cell? ⟨gLB, 0, none⟩ = some (.slice none 0 0) := LB.out.cell 0
          have k2 := LB.out.frozen 0
          go_simp
          replace K := lh (K.out.setCell (p := ⟨gLB, 0, none⟩) (by show _ ≤ gLB; omega) ((.slice (some ⟨sg, 0, none⟩) L.length scap)))
          replace TB := lh (TB.out.far (p := ⟨gLB, 0, none⟩) (by show _ ≠ gLB; omega) ((.slice (some ⟨sg, 0, none⟩) L.length scap)))
          replace FB := lh (FB.out.far (p := ⟨gLB, 0, none⟩) (by show _ ≠ gLB; omega) ((.slice (some ⟨sg, 0, none⟩) L.length scap)))
          replace BT := lh (BT.out.far (p := ⟨gLB, 0, none⟩) (by show _ ≠ gLB; omega) ((.slice (some ⟨sg, 0, none⟩) L.length scap)))
          replace BK := lh (BK.out.far (p := ⟨gLB, 0, none⟩) (by show _ ≠ gLB; omega) ((.slice (some ⟨sg, 0, none⟩) L.length scap)))
          replace BV := lh (BV.out.far (p := ⟨gLB, 0, none⟩) (by show _ ≠ gLB; omega) ((.slice (some ⟨sg, 0, none⟩) L.length scap)))
          replace KB := lh (KB.out.setCell (p := ⟨gLB, 0, none⟩) (by show _ ≤ gLB; omega) ((.slice (some ⟨sg, 0, none⟩) L.length scap)))
          replace D := lh (D.out.far (p := ⟨gLB, 0, none⟩) (by show _ ≠ gLB; omega) ((.slice (some ⟨sg, 0, none⟩) L.length scap)))
          replace RS := lh (RS.out.far (p := ⟨gLB, 0, none⟩) (by decide) LB.out ((.slice (some ⟨sg, 0, none⟩) L.length scap)))
          replace LB := lh (show Blk _ _ 75 #[(.slice (some ⟨sg, 0, none⟩) L.length scap)] from LB.out.set_ 0 ((.slice (some ⟨sg, 0, none⟩) L.length scap)))
          clear k1 k2
          generalize Y3h6.setCell ⟨gLB, 0, none⟩ ((.slice (some ⟨sg, 0, none⟩) L.length scap)) = Y3h7 at *
          refine hK.out _ _ ⟨BT.out, BK.out, TB.out⟩ (fun _ => ?_)
          clear hK KK
          try simp only [Act.put]
          refine wpAnyH_done (by kernel_rfl) ?_ _
          simp only [noP]
          go_wp2
          go_meet
          exact ⟨gD, gLB, (.slice (some ⟨sg, 0, none⟩) L.length scap), rfl, rfl, D.out, LB.out, RS.out, hg0D, hg0LB, KB.out⟩
      · skip
        go_simp
        have pb := Blk.new Y3h1 75 #[.slice none 0 0]
        have hy := (Below.refl Y3h1.heap.size Y3h1).alloc (Nat.le_refl _) (.cells #[.slice none 0 0] 75)
        obtain ⟨gLB, hgLB⟩ : ∃ g, g = Y3h1.heap.size := ⟨_, rfl⟩
        have hg0LB : V1.heap.size ≤ gLB := by rw [hgLB]; exact KB.out.size
        replace K := lh (K.out.trans (hy.mono K.out.size))
        replace TB := lh (TB.out.below hy TB.out.lt)
        replace FB := lh (FB.out.below hy FB.out.lt)
        replace BT := lh (BT.out.below hy BT.out.lt)
        replace BK := lh (BK.out.below hy BK.out.lt)
        replace BV := lh (BV.out.below hy BV.out.lt)
        replace KB := lh (KB.out.trans (hy.mono KB.out.size))
        replace D := lh (D.out.below hy D.out.lt)
        rw [← hgLB] at pb ⊢
        have LB := lh pb
        clear pb hy hgLB
        generalize Y3h1.alloc (.cells #[.slice none 0 0] 75) = Y3h2 at *
        refine hK.out _ _ ⟨BT.out, BK.out, TB.out⟩ (fun _ => ?_)
        clear hK KK
        try simp only [Act.put, tS1, tS2, tS3]
        refine tkO 5 (fun KK hK => ?_)
        go_simp
        refine (CD.out Y3h2 FB.out).mono ?_
        rintro e Y3h3 ⟨rfl, hy⟩
        replace K := lh (K.out.trans (hy.mono K.out.size))
        replace TB := lh (TB.out.below hy TB.out.lt)
        replace FB := lh (FB.out.below hy FB.out.lt)
        replace BT := lh (BT.out.below hy BT.out.lt)
        replace BK := lh (BK.out.below hy BK.out.lt)
        replace BV := lh (BV.out.below hy BV.out.lt)
        replace KB := lh (KB.out.trans (hy.mono KB.out.size))
        replace D := lh (D.out.below hy D.out.lt)
        replace LB := lh (LB.out.below hy LB.out.lt)
        clear hy
        refine hK.out _ _ ⟨BT.out, BK.out, TB.out⟩ (fun _ => ?_)
        clear hK KK
        try simp only [Act.put, tS1, tS2, tS3]
        refine tkO 11 (fun KK hK => ?_)
        obtain ⟨gI, hgI⟩ : ∃ g, g = Y3h3.heap.size := ⟨_, rfl⟩
        have hgI0 : V1.heap.size ≤ gI := by rw [hgI]; exact KB.out.size
        go_simp
        refine (CPL.out Y3h3).mono ?_
        rintro e Y3h4 ⟨rfl, h1, h2, hy⟩
        replace K := lh (K.out.trans (hy.mono K.out.size))
        replace TB := lh (TB.out.below hy TB.out.lt)
        replace FB := lh (FB.out.below hy FB.out.lt)
        replace BT := lh (BT.out.below hy BT.out.lt)
        replace BK := lh (BK.out.below hy BK.out.lt)
        replace BV := lh (BV.out.below hy BV.out.lt)
        replace KB := lh (KB.out.trans (hy.mono KB.out.size))
        replace D := lh (D.out.below hy D.out.lt)
        replace LB := lh (LB.out.below hy LB.out.lt)
        clear hy
        rw [← hgI] at h1 h2 ⊢
        have PF := lh (show Blk _ gI 68 #[.pointer (some ⟨fn, 0, none⟩)] from h1)
        have PK := lh h2
        clear h1 h2 hgI
        refine hK.out _ _ ⟨BT.out, BK.out, TB.out⟩ (fun _ => ?_)
        clear hK KK
        try simp only [Act.put, tS1, tS2, tS3]
        refine tkO 12 (fun KK hK => ?_)
        go_simp
        refine (CO.out gI Y3h4 FB.out PF.out PK.out).mono ?_
        rintro e Y3h5 ⟨sv, rfl, hx, hy⟩
        replace K := lh (K.out.trans (hy.mono K.out.size))
        replace TB := lh (TB.out.below hy TB.out.lt)
        replace FB := lh (FB.out.below hy FB.out.lt)
        replace BT := lh (BT.out.below hy BT.out.lt)
        replace BK := lh (BK.out.below hy BK.out.lt)
        replace BV := lh (BV.out.below hy BV.out.lt)
        replace KB := lh (KB.out.trans (hy.mono KB.out.size))
        replace D := lh (D.out.below hy D.out.lt)
        replace LB := lh (LB.out.below hy LB.out.lt)
        replace PF := lh (PF.out.below hy PF.out.lt)
        replace PK := lh (PK.out.below hy PK.out.lt)
        clear hy
        have RS := lh (RdP.of_own hx hl0)
        clear hx PF PK
        obtain ⟨sg, scap, hsv⟩ := RdP.shape RS.out
        subst hsv
        refine hK.out _ _ ⟨BT.out, BK.out, TB.out⟩ (fun _ => ?_)
        clear hK KK
        try simp only [Act.put, tS1, tS2, tS3]
        have hPD : gD ≠ gLB := Blk.ne_ty D.out LB.out (by decide)
        refine tkO 15 (fun KK hK => ?_)
        have k1 : Y3h5.cell? ⟨gD, 0, none⟩ = some (.int .u16 0) := D.out.cell 0
        have k2 := D.out.frozen 0
        go_simp
        replace K := lh (K.out.setCell (p := ⟨gD, 0, none⟩) (by show _ ≤ gD; omega) (.int .u16 (dg : Int)))
        replace TB := lh (TB.out.far (p := ⟨gD, 0, none⟩) (by show _ ≠ gD; omega) (.int .u16 (dg : Int)))
        replace FB := lh (FB.out.far (p := ⟨gD, 0, none⟩) (by show _ ≠ gD; omega) (.int .u16 (dg : Int)))
        replace BT := lh (BT.out.far (p := ⟨gD, 0, none⟩) (by show _ ≠ gD; omega) (.int .u16 (dg : Int)))
        replace BK := lh (BK.out.far (p := ⟨gD, 0, none⟩) (by show _ ≠ gD; omega) (.int .u16 (dg : Int)))
        replace BV := lh (BV.out.far (p := ⟨gD, 0, none⟩) (by show _ ≠ gD; omega) (.int .u16 (dg : Int)))
        replace KB := lh (KB.out.setCell (p := ⟨gD, 0, none⟩) (by show _ ≤ gD; omega) (.int .u16 (dg : Int)))
        replace LB := lh (LB.out.far (p := ⟨gD, 0, none⟩) (by show _ ≠ gD; omega) (.int .u16 (dg : Int)))
        replace RS := lh (RS.out.far (p := ⟨gD, 0, none⟩) (by decide) D.out (.int .u16 (dg : Int)))
        replace D := lh (show Blk _ _ 40 #[.int .u16 (dg : Int)] from D.out.set_ 0 (.int .u16 (dg : Int)))
        clear k1 k2
        generalize Y3h5.setCell ⟨gD, 0, none⟩ (.int .u16 (dg : Int)) = Y3h6 at *
        refine hK.out _ _ ⟨BT.out, BK.out, TB.out⟩ (fun _ => ?_)
        clear hK KK
        try simp only [Act.put]
        refine tkO 16 (fun KK hK => ?_)
        have k1 : Y3h6.cell? ⟨gLB, 0, none⟩ = some (.slice none 0 0) := LB.out.cell 0
        have k2 := LB.out.frozen 0
        go_simp
        replace K := lh (K.out.setCell (p := ⟨gLB, 0, none⟩) (by show _ ≤ gLB; omega) ((.slice (some ⟨sg, 0, none⟩) L.length scap)))
        replace TB := lh (TB.out.far (p := ⟨gLB, 0, none⟩) (by show _ ≠ gLB; omega) ((.slice (some ⟨sg, 0, none⟩) L.length scap)))
        replace FB := lh (FB.out.far (p := ⟨gLB, 0, none⟩) (by show _ ≠ gLB; omega) ((.slice (some ⟨sg, 0, none⟩) L.length scap)))
        replace BT := lh (BT.out.far (p := ⟨gLB, 0, none⟩) (by show _ ≠ gLB; omega) ((.slice (some ⟨sg, 0, none⟩) L.length scap)))
        replace BK := lh (BK.out.far (p := ⟨gLB, 0, none⟩) (by show _ ≠ gLB; omega) ((.slice (some ⟨sg, 0, none⟩) L.length scap)))
        replace BV := lh (BV.out.far (p := ⟨gLB, 0, none⟩) (by show _ ≠ gLB; omega) ((.slice (some ⟨sg, 0, none⟩) L.length scap)))
        replace KB := lh (KB.out.setCell (p := ⟨gLB, 0, none⟩) (by show _ ≤ gLB; omega) ((.slice (some ⟨sg, 0, none⟩) L.length scap)))
        replace D := lh (D.out.far (p := ⟨gLB, 0, none⟩) (by show _ ≠ gLB; omega) ((.slice (some ⟨sg, 0, none⟩) L.length scap)))
        replace RS := lh (RS.out.far (p := ⟨gLB, 0, none⟩) (by decide) LB.out ((.slice (some ⟨sg, 0, none⟩) L.length scap)))
        replace LB := lh (show Blk _ _ 75 #[(.slice (some ⟨sg, 0, none⟩) L.length scap)] from LB.out.set_ 0 ((.slice (some ⟨sg, 0, none⟩) L.length scap)))
        clear k1 k2
        generalize Y3h6.setCell ⟨gLB, 0, none⟩ ((.slice (some ⟨sg, 0, none⟩) L.length scap)) = Y3h7 at *
        refine hK.out _ _ ⟨BT.out, BK.out, TB.out⟩ (fun _ => ?_)
        clear hK KK
        try simp only [Act.put]
        refine wpAnyH_done (by kernel_rfl) ?_ _
        simp only [noP]
        go_wp2
        go_meet
        exact ⟨gD, gLB, (.slice (some ⟨sg, 0, none⟩) L.length scap), rfl, rfl, D.out, LB.out, RS.out, hg0D, hg0LB, KB.out⟩
    · skip
      go_simp
      have pb := Blk.new Y3h0 75 #[.slice none 0 0]
      have hy := (Below.refl Y3h0.heap.size Y3h0).alloc (Nat.le_refl _) (.cells #[.slice none 0 0] 75)
      obtain ⟨gLB, hgLB⟩ : ∃ g, g = Y3h0.heap.size := ⟨_, rfl⟩
      have hg0LB : V1.heap.size ≤ gLB := by rw [hgLB]; exact KB.out.size
      replace K := lh (K.out.trans (hy.mono K.out.size))
      replace TB := lh (TB.out.below hy TB.out.lt)
      replace FB := lh (FB.out.below hy FB.out.lt)
      replace BT := lh (BT.out.below hy BT.out.lt)
      replace BK := lh (BK.out.below hy BK.out.lt)
      replace BV := lh (BV.out.below hy BV.out.lt)
      replace KB := lh (KB.out.trans (hy.mono KB.out.size))
      rw [← hgLB] at pb ⊢
      have LB := lh pb
      clear pb hy hgLB
      generalize Y3h0.alloc (.cells #[.slice none 0 0] 75) = Y3h1 at *
      refine hK.out _ _ ⟨BT.out, BK.out, TB.out⟩ (fun _ => ?_)
      clear hK KK
      try simp only [Act.put, tS1, tS2, tS3]
      refine tkB 5 13 (fun KK hK => ?_) (fun KK hK => ?_)
      · skip
        go_simp
        refine (CD.out Y3h1 FB.out).mono ?_
        rintro e Y3h2 ⟨rfl, hy⟩
        replace K := lh (K.out.trans (hy.mono K.out.size))
        replace TB := lh (TB.out.below hy TB.out.lt)
        replace FB := lh (FB.out.below hy FB.out.lt)
        replace BT := lh (BT.out.below hy BT.out.lt)
        replace BK := lh (BK.out.below hy BK.out.lt)
        replace BV := lh (BV.out.below hy BV.out.lt)
        replace KB := lh (KB.out.trans (hy.mono KB.out.size))
        replace LB := lh (LB.out.below hy LB.out.lt)
        clear hy
        refine hK.out _ _ ⟨BT.out, BK.out, TB.out⟩ (fun _ => ?_)
        clear hK KK
        try simp only [Act.put, tS1, tS2, tS3]
        refine tkB 11 13 (fun KK hK => ?_) (fun KK hK => ?_)
        · skip
          obtain ⟨gI, hgI⟩ : ∃ g, g = Y3h2.heap.size := ⟨_, rfl⟩
          have hgI0 : V1.heap.size ≤ gI := by rw [hgI]; exact KB.out.size
          go_simp
          refine (CPL.out Y3h2).mono ?_
          rintro e Y3h3 ⟨rfl, h1, h2, hy⟩
          replace K := lh (K.out.trans (hy.mono K.out.size))
          replace TB := lh (TB.out.below hy TB.out.lt)
          replace FB := lh (FB.out.below hy FB.out.lt)
          replace BT := lh (BT.out.below hy BT.out.lt)
          replace BK := lh (BK.out.below hy BK.out.lt)
          replace BV := lh (BV.out.below hy BV.out.lt)
          replace KB := lh (KB.out.trans (hy.mono KB.out.size))
          replace LB := lh (LB.out.below hy LB.out.lt)
          clear hy
          rw [← hgI] at h1 h2 ⊢
          have PF := lh (show Blk _ gI 68 #[.pointer (some ⟨fn, 0, none⟩)] from h1)
          have PK := lh h2
          clear h1 h2 hgI
          refine hK.out _ _ ⟨BT.out, BK.out, TB.out⟩ (fun _ => ?_)
          clear hK KK
          try simp only [Act.put, tS1, tS2, tS3]
          refine tkB 12 13 (fun KK hK => ?_) (fun KK hK => ?_)
          · skip
            go_simp
            refine (CO.out gI Y3h3 FB.out PF.out PK.out).mono ?_
            rintro e Y3h4 ⟨sv, rfl, hx, hy⟩
            replace K := lh (K.out.trans (hy.mono K.out.size))
            replace TB := lh (TB.out.below hy TB.out.lt)
            replace FB := lh (FB.out.below hy FB.out.lt)
            replace BT := lh (BT.out.below hy BT.out.lt)
            replace BK := lh (BK.out.below hy BK.out.lt)
            replace BV := lh (BV.out.below hy BV.out.lt)
            replace KB := lh (KB.out.trans (hy.mono KB.out.size))
            replace LB := lh (LB.out.below hy LB.out.lt)
            replace PF := lh (PF.out.below hy PF.out.lt)
            replace PK := lh (PK.out.below hy PK.out.lt)
            clear hy
            have RS := lh (RdP.of_own hx hl0)
            clear hx PF PK
            obtain ⟨sg, scap, hsv⟩ := RdP.shape RS.out
            subst hsv
            refine hK.out _ _ ⟨BT.out, BK.out, TB.out⟩ (fun _ => ?_)
            clear hK KK
            try simp only [Act.put, tS1, tS2, tS3]
            refine tkO 13 (fun KK hK => ?_)
            go_simp
            have pb := Blk.new Y3h4 40 #[.int .u16 0]
            have hy := (Below.refl Y3h4.heap.size Y3h4).alloc (Nat.le_refl _) (.cells #[.int .u16 0] 40)
            obtain ⟨gD, hgD⟩ : ∃ g, g = Y3h4.heap.size := ⟨_, rfl⟩
            have hg0D : V1.heap.size ≤ gD := by rw [hgD]; exact KB.out.size
            replace K := lh (K.out.trans (hy.mono K.out.size))
            replace TB := lh (TB.out.below hy TB.out.lt)
            replace FB := lh (FB.out.below hy FB.out.lt)
            replace BT := lh (BT.out.below hy BT.out.lt)
            replace BK := lh (BK.out.below hy BK.out.lt)
            replace BV := lh (BV.out.below hy BV.out.lt)
            replace KB := lh (KB.out.trans (hy.mono KB.out.size))
            replace LB := lh (LB.out.below hy LB.out.lt)
            replace RS := lh (RS.out.below hy)
            rw [← hgD] at pb ⊢
            have D := lh pb
            clear pb hy hgD
            generalize Y3h4.alloc (.cells #[.int .u16 0] 40) = Y3h5 at *
            refine hK.out _ _ ⟨BT.out, BK.out, TB.out⟩ (fun _ => ?_)
            clear hK KK
            try simp only [Act.put, tS1, tS2, tS3]
            have hPD : gD ≠ gLB := Blk.ne_ty D.out LB.out (by decide)
            refine tkO 15 (fun KK hK => ?_)
            have k1 : Y3h5.cell? ⟨gD, 0, none⟩ = some (.int .u16 0) := D.out.cell 0
            have k2 := D.out.frozen 0
            go_simp
            replace K := lh (K.out.setCell (p := ⟨gD, 0, none⟩) (by show _ ≤ gD; omega) (.int .u16 (dg : Int)))
            replace TB := lh (TB.out.far (p := ⟨gD, 0, none⟩) (by show _ ≠ gD; omega) (.int .u16 (dg : Int)))
            replace FB := lh (FB.out.far (p := ⟨gD, 0, none⟩) (by show _ ≠ gD; omega) (.int .u16 (dg : Int)))
            replace BT := lh (BT.out.far (p := ⟨gD, 0, none⟩) (by show _ ≠ gD; omega) (.int .u16 (dg : Int)))
            replace BK := lh (BK.out.far (p := ⟨gD, 0, none⟩) (by show _ ≠ gD; omega) (.int .u16 (dg : Int)))
            replace BV := lh (BV.out.far (p := ⟨gD, 0, none⟩) (by show _ ≠ gD; omega) (.int .u16 (dg : Int)))
            replace KB := lh (KB.out.setCell (p := ⟨gD, 0, none⟩) (by show _ ≤ gD; omega) (.int .u16 (dg : Int)))
            replace LB := lh (LB.out.far (p := ⟨gD, 0, none⟩) (by show _ ≠ gD; omega) (.int .u16 (dg : Int)))
            replace RS := lh (RS.out.far (p := ⟨gD, 0, none⟩) (by decide) D.out (.int .u16 (dg : Int)))
            replace D := lh (show Blk _ _ 40 #[.int .u16 (dg : Int)] from D.out.set_ 0 (.int .u16 (dg : Int)))
            clear k1 k2
            generalize Y3h5.setCell ⟨gD, 0, none⟩ (.int .u16 (dg : Int)) = Y3h6 at *
            refine hK.out _ _ ⟨BT.out, BK.out, TB.out⟩ (fun _ => ?_)
            clear hK KK
            try simp only [Act.put]
            refine tkO 16 (fun KK hK => ?_)
            have k1 : Y3h6.cell? ⟨gLB, 0, none⟩ = some (.slice none 0 0) := LB.out.cell 0
            have k2 := LB.out.frozen 0
            go_simp
            replace K := lh (K.out.setCell (p := ⟨gLB, 0, none⟩) (by show _ ≤ gLB; omega) ((.slice (some ⟨sg, 0, none⟩) L.length scap)))
            replace TB := lh (TB.out.far (p := ⟨gLB, 0, none⟩) (by show _ ≠ gLB; omega) ((.slice (some ⟨sg, 0, none⟩) L.length scap)))
            replace FB := lh (FB.out.far (p := ⟨gLB, 0, none⟩) (by show _ ≠ gLB; omega) ((.slice (some ⟨sg, 0, none⟩) L.length scap)))
            replace BT := lh (BT.out.far (p := ⟨gLB, 0, none⟩) (by show _ ≠ gLB; omega) ((.slice (some ⟨sg, 0, none⟩) L.length scap)))
            replace BK := lh (BK.out.far (p := ⟨gLB, 0, none⟩) (by show _ ≠ gLB; omega) ((.slice (some ⟨sg, 0, none⟩) L.length scap)))
            replace BV := lh (BV.out.far (p := ⟨gLB, 0, none⟩) (by show _ ≠ gLB; omega) ((.slice (some ⟨sg, 0, none⟩) L.length scap)))
            replace KB := lh (KB.out.setCell (p := ⟨gLB, 0, none⟩) (by show _ ≤ gLB; omega) ((.slice (some ⟨sg, 0, none⟩) L.length scap)))
            replace RS := lh (RS.out.far (p := ⟨gLB, 0, none⟩) (by decide) LB.out ((.slice (some ⟨sg, 0, none⟩) L.length scap)))
            replace D := lh (D.out.far (p := ⟨gLB, 0, none⟩) (by show _ ≠ gLB; omega) ((.slice (some ⟨sg, 0, none⟩) L.length scap)))
            replace LB := lh (show Blk _ _ 75 #[(.slice (some ⟨sg, 0, none⟩) L.length scap)] from LB.out.set_ 0 ((.slice (some ⟨sg, 0, none⟩) L.length scap)))
            clear k1 k2
            generalize Y3h6.setCell ⟨gLB, 0, none⟩ ((.slice (some ⟨sg, 0, none⟩) L.length scap)) = Y3h7 at *
            refine hK.out _ _ ⟨BT.out, BK.out, TB.out⟩ (fun _ => ?_)
            clear hK KK
            try simp only [Act.put]
            refine wpAnyH_done (by kernel_rfl) ?_ _
            simp only [noP]
            go_wp2
            go_meet
            exact ⟨gD, gLB, (.slice (some ⟨sg, 0, none⟩) L.length scap), rfl, rfl, D.out, LB.out, RS.out, hg0D, hg0LB, KB.out⟩
          · skip
            go_simp
            have pb := Blk.new Y3h3 40 #[.int .u16 0]
            have hy := (Below.refl Y3h3.heap.size Y3h3).alloc (Nat.le_refl _) (.cells #[.int .u16 0] 40)
            obtain ⟨gD, hgD⟩ : ∃ g, g = Y3h3.heap.size := ⟨_, rfl⟩
            have hg0D : V1.heap.size ≤ gD := by rw [hgD]; exact KB.out.size
            replace K := lh (K.out.trans (hy.mono K.out.size))
            replace TB := lh (TB.out.below hy TB.out.lt)
            replace FB := lh (FB.out.below hy FB.out.lt)
            replace BT := lh (BT.out.below hy BT.out.lt)
            replace BK := lh (BK.out.below hy BK.out.lt)
            replace BV := lh (BV.out.below hy BV.out.lt)
            replace KB := lh (KB.out.trans (hy.mono KB.out.size))
            replace LB := lh (LB.out.below hy LB.out.lt)
            replace PF := lh (PF.out.below hy PF.out.lt)
            replace PK := lh (PK.out.below hy PK.out.lt)
            rw [← hgD] at pb ⊢
            have D := lh pb
            clear pb hy hgD
            generalize Y3h3.alloc (.cells #[.int .u16 0] 40) = Y3h4 at *
            refine hK.out _ _ ⟨BT.out, BK.out, TB.out⟩ (fun _ => ?_)
            clear hK KK
            try simp only [Act.put, tS1, tS2, tS3]
            refine tkO 12 (fun KK hK => ?_)
            go_simp
            refine (CO.out gI Y3h4 FB.out PF.out PK.out).mono ?_
            rintro e Y3h5 ⟨sv, rfl, hx, hy⟩
            replace K := lh (K.out.trans (hy.mono K.out.size))
            replace TB := lh (TB.out.below hy TB.out.lt)
            replace FB := lh (FB.out.below hy FB.out.lt)
            replace BT := lh (BT.out.below hy BT.out.lt)
            replace BK := lh (BK.out.below hy BK.out.lt)
            replace BV := lh (BV.out.below hy BV.out.lt)
            replace KB := lh (KB.out.trans (hy.mono KB.out.size))
            replace LB := lh (LB.out.below hy LB.out.lt)
            replace PF := lh (PF.out.below hy PF.out.lt)
            replace PK := lh (PK.out.below hy PK.out.lt)
            replace D := lh (D.out.below hy D.out.lt)
            clear hy
            have RS := lh (RdP.of_own hx hl0)
            clear hx PF PK
            obtain ⟨sg, scap, hsv⟩ := RdP.shape RS.out
            subst hsv
            refine hK.out _ _ ⟨BT.out, BK.out, TB.out⟩ (fun _ => ?_)
            clear hK KK
            try simp only [Act.put, tS1, tS2, tS3]
            have hPD : gD ≠ gLB := Blk.ne_ty D.out LB.out (by decide)
            refine tkO 15 (fun KK hK => ?_)
            have k1 : Y3h5.cell? ⟨gD, 0, none⟩ = some (.int .u16 0) := D.out.cell 0
            have k2 := D.out.frozen 0
            go_simp
            replace K := lh (K.out.setCell (p := ⟨gD, 0, none⟩) (by show _ ≤ gD; omega) (.int .u16 (dg : Int)))
            replace TB := lh (TB.out.far (p := ⟨gD, 0, none⟩) (by show _ ≠ gD; omega) (.int .u16 (dg : Int)))
            replace FB := lh (FB.out.far (p := ⟨gD, 0, none⟩) (by show _ ≠ gD; omega) (.int .u16 (dg : Int)))
            replace BT := lh (BT.out.far (p := ⟨gD, 0, none⟩) (by show _ ≠ gD; omega) (.int .u16 (dg : Int)))
            replace BK := lh (BK.out.far (p := ⟨gD, 0, none⟩) (by show _ ≠ gD; omega) (.int .u16 (dg : Int)))
            replace BV := lh (BV.out.far (p := ⟨gD, 0, none⟩) (by show _ ≠ gD; omega) (.int .u16 (dg : Int)))
            replace KB := lh (KB.out.setCell (p := ⟨gD, 0, none⟩) (by show _ ≤ gD; omega) (.int .u16 (dg : Int)))
            replace LB := lh (LB.out.far (p := ⟨gD, 0, none⟩) (by show _ ≠ gD; omega) (.int .u16 (dg : Int)))
            replace RS := lh (RS.out.far (p := ⟨gD, 0, none⟩) (by decide) D.out (.int .u16 (dg : Int)))
            replace D := lh (show Blk _ _ 40 #[.int .u16 (dg : Int)] from D.out.set_ 0 (.int .u16 (dg : Int)))
            clear k1 k2
            generalize Y3h5.setCell ⟨gD, 0, none⟩ (.int .u16 (dg : Int)) = Y3h6 at *
            refine hK.out _ _ ⟨BT.out, BK.out, TB.out⟩ (fun _ => ?_)
            clear hK KK
            try simp only [Act.put]
            refine tkO 16 (fun KK hK => ?_)
            have k1 : Y3h6.cell? ⟨gLB, 0, none⟩ = some (.slice none 0 0) := LB.out.cell 0
            have k2 := LB.out.frozen 0
            go_simp
            replace K := lh (K.out.setCell (p := ⟨gLB, 0, none⟩) (by show _ ≤ gLB; omega) ((.slice (some ⟨sg, 0, none⟩) L.length scap)))
            replace TB := lh (TB.out.far (p := ⟨gLB, 0, none⟩) (by show _ ≠ gLB; omega) ((.slice (some ⟨sg, 0, none⟩) L.length scap)))
            replace FB := lh (FB.out.far (p := ⟨gLB, 0, none⟩) (by show _ ≠ gLB; omega) ((.slice (some ⟨sg, 0, none⟩) L.length scap)))
            replace BT := lh (BT.out.far (p := ⟨gLB, 0, none⟩) (by show _ ≠ gLB; omega) ((.slice (some ⟨sg, 0, none⟩) L.length scap)))
            replace BK := lh (BK.out.far (p := ⟨gLB, 0, none⟩) (by show _ ≠ gLB; omega) ((.slice (some ⟨sg, 0, none⟩) L.length scap)))
            replace BV := lh (BV.out.far (p := ⟨gLB, 0, none⟩) (by show _ ≠ gLB; omega) ((.slice (some ⟨sg, 0, none⟩) L.length scap)))
            replace KB := lh (KB.out.setCell (p := ⟨gLB, 0, none⟩) (by show _ ≤ gLB; omega) ((.slice (some ⟨sg, 0, none⟩) L.length scap)))
            replace D := lh (D.out.far (p := ⟨gLB, 0, none⟩) (by show _ ≠ gLB; omega) ((.slice (some ⟨sg, 0, none⟩) L.length scap)))
            replace RS := lh (RS.out.far (p := ⟨gLB, 0, none⟩) (by decide) LB.out ((.slice (some ⟨sg, 0, none⟩) L.length scap)))
            replace LB := lh (show Blk _ _ 75 #[(.slice (some ⟨sg, 0, none⟩) L.length scap)] from LB.out.set_ 0 ((.slice (some ⟨sg, 0, none⟩) L.length scap)))
            clear k1 k2
            generalize Y3h6.setCell ⟨gLB, 0, none⟩ ((.slice (some ⟨sg, 0, none⟩) L.length scap)) = Y3h7 at *
            refine hK.out _ _ ⟨BT.out, BK.out, TB.out⟩ (fun _ => ?_)
            clear hK KK
            try simp only [Act.put]
            refine wpAnyH_done (by kernel_rfl) ?_ _
            simp only [noP]
            go_wp2
            go_meet
            exact ⟨gD, gLB, (.slice (some ⟨sg, 0, none⟩) L.length scap), rfl, rfl, D.out, LB.out, RS.out, hg0D, hg0LB, KB.out⟩
        · skip
          go_simp
          have pb := Blk.new Y3h2 40 #[.int .u16 0]
          have hy := (Below.refl Y3h2.heap.size Y3h2).alloc (Nat.le_refl _) (.cells #[.int .u16 0] 40)
          obtain ⟨gD, hgD⟩ : ∃ g, g = Y3h2.heap.size := ⟨_, rfl⟩
          have hg0D : V1.heap.size ≤ gD := by rw [hgD]; exact KB.out.size
          replace K := lh (K.out.trans (hy.mono K.out.size))
          replace TB := lh (TB.out.below hy TB.out.lt)
          replace FB := lh (FB.out.below hy FB.out.lt)
          replace BT := lh (BT.out.below hy BT.out.lt)
          replace BK := lh (BK.out.below hy BK.out.lt)
          replace BV := lh (BV.out.below hy BV.out.lt)
          replace KB := lh (KB.out.trans (hy.mono KB.out.size))
          replace LB := lh (LB.out.below hy LB.out.lt)
          rw [← hgD] at pb ⊢
          have D := lh pb
          clear pb hy hgD
          generalize Y3h2.alloc (.cells #[.int .u16 0] 40) = Y3h3 at *
          refine hK.out _ _ ⟨BT.out, BK.out, TB.out⟩ (fun _ => ?_)
          clear hK KK
          try simp only [Act.put, tS1, tS2, tS3]
          refine tkO 11 (fun KK hK => ?_)
          obtain ⟨gI, hgI⟩ : ∃ g, g = Y3h3.heap.size := ⟨_, rfl⟩
          have hgI0 : V1.heap.size ≤ gI := by rw [hgI]; exact KB.out.size
          go_simp
          refine (CPL.out Y3h3).mono ?_
          rintro e Y3h4 ⟨rfl, h1, h2, hy⟩
          replace K := lh (K.out.trans (hy.mono K.out.size))
          replace TB := lh (TB.out.below hy TB.out.lt)
          replace FB := lh (FB.out.below hy FB.out.lt)
          replace BT := lh (BT.out.below hy BT.out.lt)
          replace BK := lh (BK.out.below hy BK.out.lt)
          replace BV := lh (BV.out.below hy BV.out.lt)
          replace KB := lh (KB.out.trans (hy.mono KB.out.size))
          replace LB := lh (LB.out.below hy LB.out.lt)
          replace D := lh (D.out.below hy D.out.lt)
          clear hy
          rw [← hgI] at h1 h2 ⊢
          have PF := lh (show Blk _ gI 68 #[.pointer (some ⟨fn, 0, none⟩)] from h1)
          have PK := lh h2
          clear h1 h2 hgI
          refine hK.out _ _ ⟨BT.out, BK.out, TB.out⟩ (fun _ => ?_)
          clear hK KK
          try simp only [Act.put, tS1, tS2, tS3]
          refine tkO 12 (fun KK hK => ?_)
          go_simp
          refine (CO.out gI Y3h4 FB.out PF.out PK.out).mono ?_
          rintro e Y3h5 ⟨sv, rfl, hx, hy⟩
          replace K := lh (K.out.trans (hy.mono K.out.size))
          replace TB := lh (TB.out.below hy TB.out.lt)
          replace FB := lh (FB.out.below hy FB.out.lt)
          replace BT := lh (BT.out.below hy BT.out.lt)
          replace BK := lh (BK.out.below hy BK.out.lt)
          replace BV := lh (BV.out.below hy BV.out.lt)
          replace KB := lh (KB.out.trans (hy.mono KB.out.size))
          replace LB := lh (LB.out.below hy LB.out.lt)
          replace D := lh (D.out.below hy D.out.lt)
          replace PF := lh (PF.out.below hy PF.out.lt)
          replace PK := lh (PK.out.below hy PK.out.lt)
          clear hy
          have RS := lh (RdP.of_own hx hl0)
          clear hx PF PK
          obtain ⟨sg, scap, hsv⟩ := RdP.shape RS.out
          subst hsv
          refine hK.out _ _ ⟨BT.out, BK.out, TB.out⟩ (fun _ => ?_)
          clear hK KK
          try simp only [Act.put, tS1, tS2, tS3]
          have hPD : gD ≠ gLB := Blk.ne_ty D.out LB.out (by decide)
          refine tkO 15 (fun KK hK => ?_)
          have k1 : Y3h5.cell? ⟨gD, 0, none⟩ = some (.int .u16 0) := D.out.cell 0
          have k2 := D.out.frozen 0
          go_simp
          replace K := lh (K.out.setCell (p := ⟨gD, 0, none⟩) (by show _ ≤ gD; omega) (.int .u16 (dg : Int)))
          replace TB := lh (TB.out.far (p := ⟨gD, 0, none⟩) (by show _ ≠ gD; omega) (.int .u16 (dg : Int)))
          replace FB := lh (FB.out.far (p := ⟨gD, 0, none⟩) (by show _ ≠ gD; omega) (.int .u16 (dg : Int)))
          replace BT := lh (BT.out.far (p := ⟨gD, 0, none⟩) (by show _ ≠ gD; omega) (.int .u16 (dg : Int)))
          replace BK := lh (BK.out.far (p := ⟨gD, 0, none⟩) (by show _ ≠ gD; omega) (.int .u16 (dg : Int)))
          replace BV := lh (BV.out.far (p := ⟨gD, 0, none⟩) (by show _ ≠ gD; omega) (.int .u16 (dg : Int)))
          replace KB := lh (KB.out.setCell (p := ⟨gD, 0, none⟩) (by show _ ≤ gD; omega) (.int .u16 (dg : Int)))
          replace LB := lh (LB.out.far (p := ⟨gD, 0, none⟩) (by show _ ≠ gD; omega) (.int .u16 (dg : Int)))
          replace RS := lh (RS.out.far (p := ⟨gD, 0, none⟩) (by decide) D.out (.int .u16 (dg : Int)))
          replace D := lh (show Blk _ _ 40 #[.int .u16 (dg : Int)] from D.out.set_ 0 (.int .u16 (dg : Int)))
          clear k1 k2
          generalize Y3h5.setCell ⟨gD, 0, none⟩ (.int .u16 (dg : Int)) = Y3h6 at *
          refine hK.out _ _ ⟨BT.out, BK.out, TB.out⟩ (fun _ => ?_)
          clear hK KK
          try simp only [Act.put]
          refine tkO 16 (fun KK hK => ?_)
          have k1 : Y3h6.cell? ⟨gLB, 0, none⟩ = some (.slice none 0 0) := LB.out.cell 0
          have k2 := LB.out.frozen 0
          go_simp
          replace K := lh (K.out.setCell (p := ⟨gLB, 0, none⟩) (by show _ ≤ gLB; omega) ((.slice (some ⟨sg, 0, none⟩) L.length scap)))
          replace TB := lh (TB.out.far (p := ⟨gLB, 0, none⟩) (by show _ ≠ gLB; omega) ((.slice (some ⟨sg, 0, none⟩) L.length scap)))
          replace FB := lh (FB.out.far (p := ⟨gLB, 0, none⟩) (by show _ ≠ gLB; omega) ((.slice (some ⟨sg, 0, none⟩) L.length scap)))
          replace BT := lh (BT.out.far (p := ⟨gLB, 0, none⟩) (by show _ ≠ gLB; omega) ((.slice (some ⟨sg, 0, none⟩) L.length scap)))
          replace BK := lh (BK.out.far (p := ⟨gLB, 0, none⟩) (by show _ ≠ gLB; omega) ((.slice (some ⟨sg, 0, none⟩) L.length scap)))
          replace BV := lh (BV.out.far (p := ⟨gLB, 0, none⟩) (by show _ ≠ gLB; omega) ((.slice (some ⟨sg, 0, none⟩) L.length scap)))
          replace KB := lh (KB.out.setCell (p := ⟨gLB, 0, none⟩) (by show _ ≤ gLB; omega) ((.slice (some ⟨sg, 0, none⟩) L.length scap)))
          replace D := lh (D.out.far (p := ⟨gLB, 0, none⟩) (by show _ ≠ gLB; omega) ((.slice (some ⟨sg, 0, none⟩) L.length scap)))
          replace RS := lh (RS.out.far (p := ⟨gLB, 0, none⟩) (by decide) LB.out ((.slice (some ⟨sg, 0, none⟩) L.length scap)))
          replace LB := lh (show Blk _ _ 75 #[(.slice (some ⟨sg, 0, none⟩) L.length scap)] from LB.out.set_ 0 ((.slice (some ⟨sg, 0, none⟩) L.length scap)))
          clear k1 k2
          generalize Y3h6.setCell ⟨gLB, 0, none⟩ ((.slice (some ⟨sg, 0, none⟩) L.length scap)) = Y3h7 at *
          refine hK.out _ _ ⟨BT.out, BK.out, TB.out⟩ (fun _ => ?_)
          clear hK KK
          try simp only [Act.put]
          refine wpAnyH_done (by kernel_rfl) ?_ _
          simp only [noP]
          go_wp2
          go_meet
          exact ⟨gD, gLB, (.slice (some ⟨sg, 0, none⟩) L.length scap), rfl, rfl, D.out, LB.out, RS.out, hg0D, hg0LB, KB.out⟩
      · skip
        go_simp
        have pb := Blk.new Y3h1 40 #[.int .u16 0]
        have hy := (Below.refl Y3h1.heap.size Y3h1).alloc (Nat.le_refl _) (.cells #[.int .u16 0] 40)
        obtain ⟨gD, hgD⟩ : ∃ g, g = Y3h1.heap.size := ⟨_, rfl⟩
        have hg0D : V1.heap.size ≤ gD := by rw [hgD]; exact KB.out.size
        replace K := lh (K.out.trans (hy.mono K.out.size))
        replace TB := lh (TB.out.below hy TB.out.lt)
        replace FB := lh (FB.out.below hy FB.out.lt)
        replace BT := lh (BT.out.below hy BT.out.lt)
        replace BK := lh (BK.out.below hy BK.out.lt)
        replace BV := lh (BV.out.below hy BV.out.lt)
        replace KB := lh (KB.out.trans (hy.mono KB.out.size))
        replace LB := lh (LB.out.below hy LB.out.lt)
        rw [← hgD] at pb ⊢
        have D := lh pb
        clear pb hy hgD
        generalize Y3h1.alloc (.cells #[.int .u16 0] 40) = Y3h2 at *
        refine hK.out _ _ ⟨BT.out, BK.out, TB.out⟩ (fun _ => ?_)
        clear hK KK
        try simp only [Act.put, tS1, tS2, tS3]
        refine tkO 5 (fun KK hK => ?_)
        go_simp
        refine (CD.out Y3h2 FB.out).mono ?_
        rintro e Y3h3 ⟨rfl, hy⟩
        replace K := lh (K.out.trans (hy.mono K.out.size))
        replace TB := lh (TB.out.below hy TB.out.lt)
        replace FB := lh (FB.out.below hy FB.out.lt)
        replace BT := lh (BT.out.below hy BT.out.lt)
        replace BK := lh (BK.out.below hy BK.out.lt)
        replace BV := lh (BV.out.below hy BV.out.lt)
        replace KB := lh (KB.out.trans (hy.mono KB.out.size))
        replace LB := lh (LB.out.below hy LB.out.lt)
        replace D := lh (D.out.below hy D.out.lt)
        clear hy
        refine hK.out _ _ ⟨BT.out, BK.out, TB.out⟩ (fun _ => ?_)
        clear hK KK
        try simp only [Act.put, tS1, tS2, tS3]
        refine tkO 11 (fun KK hK => ?_)
        obtain ⟨gI, hgI⟩ : ∃ g, g = Y3h3.heap.size := ⟨_, rfl⟩
        have hgI0 : V1.heap.size ≤ gI := by rw [hgI]; exact KB.out.size
        go_simp
        refine (CPL.out Y3h3).mono ?_
        rintro e Y3h4 ⟨rfl, h1, h2, hy⟩
        replace K := lh (K.out.trans (hy.mono K.out.size))
        replace TB := lh (TB.out.below hy TB.out.lt)
        replace FB := lh (FB.out.below hy FB.out.lt)
        replace BT := lh (BT.out.below hy BT.out.lt)
        replace BK := lh (BK.out.below hy BK.out.lt)
        replace BV := lh (BV.out.below hy BV.out.lt)
        replace KB := lh (KB.out.trans (hy.mono KB.out.size))
        replace LB := lh (LB.out.below hy LB.out.lt)
        replace D := lh (D.out.below hy D.out.lt)
        clear hy
        rw [← hgI] at h1 h2 ⊢
        have PF := lh (show Blk _ gI 68 #[.pointer (some ⟨fn, 0, none⟩)] from h1)
        have PK := lh h2
        clear h1 h2 hgI
        refine hK.out _ _ ⟨BT.out, BK.out, TB.out⟩ (fun _ => ?_)
        clear hK KK
        try simp only [Act.put, tS1, tS2, tS3]
        refine tkO 12 (fun KK hK => ?_)
        go_simp
        refine (CO.out gI Y3h4 FB.out PF.out PK.out).mono ?_
        rintro e Y3h5 ⟨sv, rfl, hx, hy⟩
        replace K := lh (K.out.trans (hy.mono K.out.size))
        replace TB := lh (TB.out.below hy TB.out.lt)
        replace FB := lh (FB.out.below hy FB.out.lt)
        replace BT := lh (BT.out.below hy BT.out.lt)
        replace BK := lh (BK.out.below hy BK.out.lt)
        replace BV := lh (BV.out.below hy BV.out.lt)
        replace KB := lh (KB.out.trans (hy.mono KB.out.size))
        replace LB := lh (LB.out.below hy LB.out.lt)
        replace D := lh (D.out.below hy D.out.lt)
        replace PF := lh (PF.out.below hy PF.out.lt)
        replace PK := lh (PK.out.below hy PK.out.lt)
        clear hy
        have RS := lh (RdP.of_own hx hl0)
        clear hx PF PK
        obtain ⟨sg, scap, hsv⟩ := RdP.shape RS.out
        subst hsv
        refine hK.out _ _ ⟨BT.out, BK.out, TB.out⟩ (fun _ => ?_)
        clear hK KK
        try simp only [Act.put, tS1, tS2, tS3]
        have hPD : gD ≠ gLB := Blk.ne_ty D.out LB.out (by decide)
        refine tkO 15 (fun KK hK => ?_)
        have k1 : Y3h5.cell? ⟨gD, 0, none⟩ = some (.int .u16 0) := D.out.cell 0
        have k2 := D.out.frozen 0
        go_simp
        replace K := lh (K.out.setCell (p := ⟨gD, 0, none⟩) (by show _ ≤ gD; omega) (.int .u16 (dg : Int)))
        replace TB := lh (TB.out.far (p := ⟨gD, 0, none⟩) (by show _ ≠ gD; omega) (.int .u16 (dg : Int)))
        replace FB := lh (FB.out.far (p := ⟨gD, 0, none⟩) (by show _ ≠ gD; omega) (.int .u16 (dg : Int)))
        replace BT := lh (BT.out.far (p := ⟨gD, 0, none⟩) (by show _ ≠ gD; omega) (.int .u16 (dg : Int)))
        replace BK := lh (BK.out.far (p := ⟨gD, 0, none⟩) (by show _ ≠ gD; omega) (.int .u16 (dg : Int)))
        replace BV := lh (BV.out.far (p := ⟨gD, 0, none⟩) (by show _ ≠ gD; omega) (.int .u16 (dg : Int)))
        replace KB := lh (KB.out.setCell (p := ⟨gD, 0, none⟩) (by show _ ≤ gD; omega) (.int .u16 (dg : Int)))
        replace LB := lh (LB.out.far (p := ⟨gD, 0, none⟩) (by show _ ≠ gD; omega) (.int .u16 (dg : Int)))
        replace RS := lh (RS.out.far (p := ⟨gD, 0, none⟩) (by decide) D.out (.int .u16 (dg : Int)))
        replace D := lh (show Blk _ _ 40 #[.int .u16 (dg : Int)] from D.out.set_ 0 (.int .u16 (dg : Int)))
        clear k1 k2
        generalize Y3h5.setCell ⟨gD, 0, none⟩ (.int .u16 (dg : Int)) = Y3h6 at *
        refine hK.out _ _ ⟨BT.out, BK.out, TB.out⟩ (fun _ => ?_)
        clear hK KK
        try simp only [Act.put]
        refine tkO 16 (fun KK hK => ?_)
        have k1 : Y3h6.cell? ⟨gLB, 0, none⟩ = some (.slice none 0 0) := LB.out.cell 0
        have k2 := LB.out.frozen 0
        go_simp
        replace K := lh (K.out.setCell (p := ⟨gLB, 0, none⟩) (by show _ ≤ gLB; omega) ((.slice (some ⟨sg, 0, none⟩) L.length scap)))
        replace TB := lh (TB.out.far (p := ⟨gLB, 0, none⟩) (by show _ ≠ gLB; omega) ((.slice (some ⟨sg, 0, none⟩) L.length scap)))
        replace FB := lh (FB.out.far (p := ⟨gLB, 0, none⟩) (by show _ ≠ gLB; omega) ((.slice (some ⟨sg, 0, none⟩) L.length scap)))
        replace BT := lh (BT.out.far (p := ⟨gLB, 0, none⟩) (by show _ ≠ gLB; omega) ((.slice (some ⟨sg, 0, none⟩) L.length scap)))
        replace BK := lh (BK.out.far (p := ⟨gLB, 0, none⟩) (by show _ ≠ gLB; omega) ((.slice (some ⟨sg, 0, none⟩) L.length scap)))
        replace BV := lh (BV.out.far (p := ⟨gLB, 0, none⟩) (by show _ ≠ gLB; omega) ((.slice (some ⟨sg, 0, none⟩) L.length scap)))
        replace KB := lh (KB.out.setCell (p := ⟨gLB, 0, none⟩) (by show _ ≤ gLB; omega) ((.slice (some ⟨sg, 0, none⟩) L.length scap)))
        replace D := lh (D.out.far (p := ⟨gLB, 0, none⟩) (by show _ ≠ gLB; omega) ((.slice (some ⟨sg, 0, none⟩) L.length scap)))
        replace RS := lh (RS.out.far (p := ⟨gLB, 0, none⟩) (by decide) LB.out ((.slice (some ⟨sg, 0, none⟩) L.length scap)))
        replace LB := lh (show Blk _ _ 75 #[(.slice (some ⟨sg, 0, none⟩) L.length scap)] from LB.out.set_ 0 ((.slice (some ⟨sg, 0, none⟩) L.length scap)))
        clear k1 k2
        generalize Y3h6.setCell ⟨gLB, 0, none⟩ ((.slice (some ⟨sg, 0, none⟩) L.length scap)) = Y3h7 at *
        refine hK.out _ _ ⟨BT.out, BK.out, TB.out⟩ (fun _ => ?_)
        clear hK KK
        try simp only [Act.put]
        refine wpAnyH_done (by kernel_rfl) ?_ _
        simp only [noP]
        go_wp2
        go_meet
        exact ⟨gD, gLB, (.slice (some ⟨sg, 0, none⟩) L.length scap), rfl, rfl, D.out, LB.out, RS.out, hg0D, hg0LB, KB.out⟩
  case rest => as_aux_lemma =>
    obtain ⟨gD, gL, sv, rfl, rfl, hD, hL, hR, hg1, hg2, hy⟩ := hcut
    have D := lh hD
    have LB := lh hL
    have RS := lh hR
    clear hD hL hR CPL CO CD
    replace K := lh (K.out.trans (hy.mono K.out.size))
    replace HT := lh (HT.out.below hy)
    replace TB := lh (TB.out.below hy TB.out.lt)
    replace FB := lh (FB.out.below hy FB.out.lt)
    replace BT := lh (BT.out.below hy BT.out.lt)
    replace BK := lh (BK.out.below hy BK.out.lt)
    replace BV := lh (BV.out.below hy BV.out.lt)
    replace RT := lh (RT.out.below hy RT.out.lt)
    clear hy
    have hDl := D.out.lt
    have hLl := LB.out.lt
    have hRT2 := RT.out.lt
    obtain ⟨gS, hgS⟩ : ∃ g, g = wc.heap.size := ⟨_, rfl⟩
    have hDS : gD < gS := by omega
    have hLS2 : gL < gS := by omega
    have b1 := Blk.new wc 42 k0.cs
    have b2 := Blk.new (wc.alloc (.cells k0.cs 42)) 4 #[.bool false]
    rw [World.size_alloc, ← hgS] at b2
    rw [← hgS] at b1
    have hy := ((Below.refl wc.heap.size wc).alloc (Nat.le_refl _) (.cells k0.cs 42)).alloc (by simp) (.cells #[.bool false] 4)
    have LS := lh (b1.alloc (.cells #[.bool false] 4))
    have FD := lh b2
    replace K := lh (K.out.trans (hy.mono K.out.size))
    replace HT := lh (HT.out.below hy)
    replace TB := lh (TB.out.below hy TB.out.lt)
    replace FB := lh (FB.out.below hy FB.out.lt)
    replace BT := lh (BT.out.below hy BT.out.lt)
    replace BK := lh (BK.out.below hy BK.out.lt)
    replace BV := lh (BV.out.below hy BV.out.lt)
    replace RT := lh (RT.out.below hy RT.out.lt)
    replace D := lh (D.out.below hy D.out.lt)
    replace LB := lh (LB.out.below hy LB.out.lt)
    replace RS := lh (RS.out.below hy)
    have hS1 : V1.heap.size ≤ gS := by omega
    have hz42 := zero42
    go_upto_region 6 with fail
    rw [← hgS]
    clear hz42 b1 b2 hy hgS
    generalize (wc.alloc (.cells k0.cs 42)).alloc (.cells #[.bool false] 4) = Va at *
    have B0 := lh (show (#[.pointer (some ⟨tn, 0, none⟩)] : Array Value)[0]? = some (.pointer (some ⟨tn, 0, none⟩)) from rfl)
    have hFDl := FD.out.lt
    have L1 := (BT.out.cell 0).trans B0.out
    have L2 := (TB.out.cell 1).trans T1.out
    go_wp2_with fail
    clear L1 L2
    obtain ⟨gI, hgI⟩ : ∃ g, g = Va.heap.size := ⟨_, rfl⟩
    have hI0 : gS + 1 < gI := by rw [hgI]; exact FD.out.lt
    refine (CA.out Va).mono ?_
    rintro e V101 ⟨rfl, h1, hy⟩
    replace K := lh (K.out.trans (hy.mono K.out.size))
    replace HT := lh (HT.out.below hy)
    replace TB := lh (TB.out.below hy TB.out.lt)
    replace FB := lh (FB.out.below hy FB.out.lt)
    replace BT := lh (BT.out.below hy BT.out.lt)
    replace BK := lh (BK.out.below hy BK.out.lt)
    replace BV := lh (BV.out.below hy BV.out.lt)
    replace RT := lh (RT.out.below hy RT.out.lt)
    replace D := lh (D.out.below hy D.out.lt)
    replace LB := lh (LB.out.below hy LB.out.lt)
    replace RS := lh (RS.out.below hy)
    replace LS := lh (LS.out.below hy LS.out.lt)
    replace FD := lh (FD.out.below hy FD.out.lt)
    rw [← hgI] at h1 ⊢
    have BI := lh h1
    have hI1 := h1.lt
    clear h1 hgI
    clear hy
    obtain ⟨sg, scap, cur, rfl, hBr, hcu⟩ := RS.out
    have RB := lh hBr
    have HCU := lh hcu
    have hn1 := Blk.ne_ty hBr LS.out (by decide)
    have hn2 := Blk.ne_ty hBr FD.out (by decide)
    have hRBl := hBr.lt
    clear hBr hcu RS
    have hql := eql_fn2
    have hW0 := K.out.size
    go_wp2_with fail
    refine (wpIn_wide (n := 3)).1 ?_
    gi_wp2_with fail
    obtain ⟨NS, hNS⟩ : ∃ n, n = (cf.st.toNat * cf.sz.toNat) := ⟨_, rfl⟩
    have HST := lh (itT_stops 2 (by omega) gI B cf.st.toNat cf.sz.toNat c V101 BI.out HT.out.G)
    rw [← hNS] at HST
    have HNS := lh hNS
    refine name_act fun act hact => ?_
    refine wpIn_rangeFunc_ownH (a := act) rfl (by omega) (gf := 64) (lb := #[.pointer (some ⟨gI, 0, none⟩)]) (by rw [hact]; rfl) trivial (enters_of Try.func64 (by kernel_rfl) rfl)
      HST.out (fun h k => Kept.trans h k) (kept_b (fun k hk => by rcases hk with rfl | ⟨q1, q2⟩ <;> omega)) (Below.refl _ _) (fun _ => rfl)
      (fun pre W' => Apart gS 2 V101 W' ∧ Blk W' gS 42 (tkC (tw pre)) ∧ Blk W' (gS + 1) 4 #[.bool (tw pre).isSome] ∧ ∀ l, tw pre = some l → l.Fit)
      (fun _ _ _ => False)
      (OwnFrom.and (ownFrom_apart (Nat.le_refl _)) (OwnFrom.and (fun _ X Y row h hg hr => blk_own _ _ _ _ () X Y row h hg hr) (OwnFrom.and (fun _ X Y row h hg hr => blk_own _ _ _ _ () X Y row h hg hr) (ownFrom_pure _ (fun pre => ∀ l, tw pre = some l → l.Fit)))))
      (fun _ _ _ _ _ hs _ _ => hs)
      ⟨.of_below (Below.refl _ _), by rw [T00.out]; exact LS.out, by rw [T00.out]; exact FD.out, fun l hl => by rw [T00.out] at hl; cases hl⟩
      (fun x a' W' => ∃ bp, V101.heap.size ≤ bp ∧ Blk W' bp 84 x.2.cs ∧ a' = { tmps := ((act.tmps.setIfInBounds 35 (.agg (pcG cf.sz.toNat x))).setIfInBounds 36 (.agg x.2.cs)).setIfInBounds 13 (.pointer (some ⟨bp, 0, none⟩)), defers := [] })
      (fun x a' _ A' B' row hs hg hr => by
        obtain ⟨bp, e1, e2, e3⟩ := hs
        exact ⟨bp, e1, blk_own _ _ bp _ () A' B' row e2 hg hr, e3⟩)
      ?assign ?body ?done ?stop
    case assign =>
      intro l pre x W' KK hI hK
      have hsz := hI.1.size
      have hst : x.2.cs.size = 41 := x.2.size
      have hz := zero84
      have hzs := zSe_size
      have hst1 := run_storeCells_new (P := Try.prog) W' 84 zSe x.2.cs (by rw [x.2.size]; exact i84) (by rw [hst, hzs]) (seC_all _ _ _ _ _)
      have HI := lh hI
      subst hact
      clear CA EQ CM CH CK CT TWN TFT hql HST HT TB FB hI
      generalize x.2.cs = xc at *
      gi_wp2
      exact hK _ _ ((KeepsOthers.alloc _ _).from _) (Kept.below ((Below.refl _ W').alloc (Nat.le_refl _) _) (fun k hk => by rcases hk with rfl | ⟨q1, q2⟩ <;> omega)) ⟨HI.out.1.trans (.of_below ((Below.refl _ W').alloc (Nat.le_refl _) _)), HI.out.2.1.alloc _, HI.out.2.2.1.alloc _, HI.out.2.2.2⟩ ⟨W'.heap.size, hsz, Blk.new _ _ _, rfl⟩
    case body =>
      rintro l pre x a' W' hwl hrec ⟨hA, hLS, hFD, hfit⟩ ⟨bp, hbp, hbb, rfl⟩ hlt
      subst hact
      simp only [tS1, tS2, tS3]
      obtain ⟨xi, s⟩ := x
      simp only at hbb ⊢
      have hp1 : gS < W'.heap.size ∧ gS + 1 < W'.heap.size := ⟨hLS.lt, hFD.lt⟩
      replace BT := lh (hA.blk BT.out (by omega))
      replace TB := lh (hA.blk TB.out (by omega))
      replace BK := lh (hA.blk BK.out (by omega))
      replace BV := lh (hA.blk BV.out (by omega))
      replace D := lh (hA.blk D.out (by omega))
      replace LB := lh (hA.blk LB.out (by omega))
      replace RB := lh (hA.blk RB.out (by omega))
      replace HT := lh (hA.ts HT.out (by omega))
      have RS : Hid (RdP W' (.slice (some ⟨sg, 0, none⟩) L.length scap) L) := ⟨sg, scap, cur, rfl, RB.out, HCU.out⟩
      have LSb := lh hLS
      have FDb := lh hFD
      have X := lh hbb
      have HA := lh hA
      have HFIT := lh hfit
      have hsz0 := hA.size
      have KB := lh (Below.refl W'.heap.size W')
      have hgn : tn < gS ∧ B + 2 + cf.st.toNat ≤ gS := by omega
      have SI := s.ib
      have SP := lh (seC_key s.k true s.d s.v s.r)
      change Hid ((s.cs.toList.drop 0).take s.k.cs.toList.length = _) at SP
      have KI : Hid ((Try.prog.info? 42).map (·.size) = some s.k.cs.toList.length) := by show _ = _; rw [Array.length_toList]; exact fl_ik s.k s.fit
      have KI2 := lh (fl_ik s.k s.fit)
      have KA := lh (Fl.cs_all s.k)
      have KY : Hid (s.k.cs.size = (tkC (tw pre)).size) := by show _ = _; rw [s.k.cs_size s.fit, tkC_size _ hfit]
      have TI : Hid ((Try.prog.info? 42).map (·.size) = some (tkC (tw pre)).size) := by show _ = _; rw [tkC_size _ hfit, ← s.k.cs_size s.fit]; exact fl_ik s.k s.fit
      have HTS := lh (CT.out (tw pre) s)
      have HTW := lh (TWN.out pre (xi, s))
      have HF2 := lh (TFT.out (tw pre) s hfit)
      have CMs := lh (CM.out s (.slice (some ⟨sg, 0, none⟩) L.length scap))
      have CHs := lh (CH.out s)
      have hqe := EQ.out s
      have CKs := lh (fun (l : Fl) hl => CK.out s.k l s.fit hl)
      have HCMP := lh (show ∀ l : Fl, tw pre = some l → twP (tw pre) s = decide (cmpN (bK s.k) (bK l) < 0) from fun l h => by rw [h]; rfl)
      have HCM0 := lh (show tw pre = none → twP (tw pre) s = true from fun h => by rw [h]; rfl)
      generalize decide (s.k = k) = a1 at *
      generalize hitsB s dg v = a2 at *
      generalize L.any (mtF (plL cf s.k)) = a3 at *
      generalize twP (tw pre) s = a4 at *
      clear hA hLS hFD hbb hfit hwl hrec hlt CA EQ CM CH CK CT TWN TFT T00 hql HST FB LS FD BI RT HNS hNS RB HCU
      have L38 := lh (show (loadVar 42 ⟨bp, 0, none⟩).run Try.prog W' = .ok (.agg s.k.cs) W' from by have h := run_part_load (P := Try.prog) 42 0 s.k.cs.toList _ X.out SP.out Try.underlying42 rfl KI.out; rwa [Array.toArray_toList] at h)
      have L39 := lh (show (loadVar 42 ⟨w.heap.size + 1, 0, none⟩).run Try.prog W' = .ok (.agg kc) W' from run_blk_load (P := Try.prog) 42 (w.heap.size + 1) _ BK.out Try.underlying42 rfl IK.out)
      cases a1 with
      | true =>
        gi_wp2_with (first | ((with_reducible refine wpListIn_load_want (op := ⟨some 38, .load 42 (.tmp 37), _, _, _, _⟩) ?g38x3a 42 (.tmp 37) ?g38x3b ⟨bp, 0, none⟩ ?g38x3c (.agg s.k.cs) L38.out ?_); (case g38x3a => rfl); (case g38x3b => rfl); (case g38x3c => rfl)) | ((with_reducible refine wpListIn_load_want (op := ⟨some 39, .load 42 (.tmp 4), _, _, _, _⟩) ?g39x4a 42 (.tmp 4) ?g39x4b ⟨w.heap.size + 1, 0, none⟩ ?g39x4c (.agg kc) L39.out ?_); (case g39x4a => rfl); (case g39x4b => rfl); (case g39x4c => rfl)))
        refine ⟨trivial, ?_⟩
        gi_wp2
        refine ⟨trivial, ?_⟩
        gi_wp2
        have ht : ts (tw pre) s = tw pre := HTS.out.trans (if_neg (by simp))
        exact ⟨keepsF_below KB.out, Kept.below KB.out (fun q hq => by rcases hq with rfl | ⟨q1, q2⟩ <;> omega), HA.out.trans (.of_below KB.out), by rw [HTW.out, ht]; exact LSb.out, by rw [HTW.out, ht]; exact FDb.out, fun q hq => HF2.out q (by rw [HTW.out] at hq; exact hq)⟩
      | false =>
        have L42 := lh (show (loadVar 84 ⟨bp, 0, none⟩).run Try.prog W' = .ok (.agg s.cs) W' from run_blk_load (P := Try.prog) 84 (bp) _ X.out Try.underlying84 rfl SI.out)
        have c43 := D.out.cell 0
        have c44 := BV.out.cell 0
        gi_wp2_with (first | ((with_reducible refine wpListIn_load_want (op := ⟨some 38, .load 42 (.tmp 37), _, _, _, _⟩) ?g38x5a 42 (.tmp 37) ?g38x5b ⟨bp, 0, none⟩ ?g38x5c (.agg s.k.cs) L38.out ?_); (case g38x5a => rfl); (case g38x5b => rfl); (case g38x5c => rfl)) | ((with_reducible refine wpListIn_load_want (op := ⟨some 39, .load 42 (.tmp 4), _, _, _, _⟩) ?g39x6a 42 (.tmp 4) ?g39x6b ⟨w.heap.size + 1, 0, none⟩ ?g39x6c (.agg kc) L39.out ?_); (case g39x6a => rfl); (case g39x6b => rfl); (case g39x6c => rfl)) | ((with_reducible refine wpListIn_load_want (op := ⟨some 42, .load 84 (.tmp 13), _, _, _, _⟩) ?g42x7a 84 (.tmp 13) ?g42x7b ⟨bp, 0, none⟩ ?g42x7c (.agg s.cs) L42.out ?_); (case g42x7a => rfl); (case g42x7b => rfl); (case g42x7c => rfl)))
        clear L38 L39 L42 c43 c44
        refine ⟨trivial, ?_⟩
        refine (CallsIn.inRound l (callsIn_wide.2 (CHs.out W'))).mono ?_
        rintro e V301 ⟨rfl, hy⟩
        replace BT := lh (BT.out.below hy BT.out.lt)
        replace TB := lh (TB.out.below hy TB.out.lt)
        replace BK := lh (BK.out.below hy BK.out.lt)
        replace BV := lh (BV.out.below hy BV.out.lt)
        replace D := lh (D.out.below hy D.out.lt)
        replace LB := lh (LB.out.below hy LB.out.lt)
        replace HT := lh (HT.out.below hy)
        replace RS := lh (RS.out.below hy)
        replace LSb := lh (LSb.out.below hy LSb.out.lt)
        replace FDb := lh (FDb.out.below hy FDb.out.lt)
        replace X := lh (X.out.below hy X.out.lt)
        replace KB := lh (KB.out.trans (hy.mono KB.out.size))
        clear hy
        cases a2 with
        | false =>
          gi_wp2
          refine ⟨trivial, ?_⟩
          gi_wp2
          have ht : ts (tw pre) s = tw pre := HTS.out.trans (if_neg (by simp))
          exact ⟨keepsF_below KB.out, Kept.below KB.out (fun q hq => by rcases hq with rfl | ⟨q1, q2⟩ <;> omega), HA.out.trans (.of_below KB.out), by rw [HTW.out, ht]; exact LSb.out, by rw [HTW.out, ht]; exact FDb.out, fun q hq => HF2.out q (by rw [HTW.out] at hq; exact hq)⟩
        | true =>
          have L51 := lh (show (loadVar 42 ⟨bp, 0, none⟩).run Try.prog V301 = .ok (.agg s.k.cs) V301 from by have h := run_part_load (P := Try.prog) 42 0 s.k.cs.toList _ X.out SP.out Try.underlying42 rfl KI.out; rwa [Array.toArray_toList] at h)
          have c49 := BT.out.cell 0
          have c52 := LB.out.cell 0
          gi_wp2_with (((with_reducible refine wpListIn_load_want (op := ⟨some 51, .load 42 (.tmp 50), _, _, _, _⟩) ?g51x8a 42 (.tmp 50) ?g51x8b ⟨bp, 0, none⟩ ?g51x8c (.agg s.k.cs) L51.out ?_); (case g51x8a => rfl); (case g51x8b => rfl); (case g51x8c => rfl)))
          clear L51 c49 c52
          refine ⟨trivial, ?_⟩
          refine (CallsIn.inRound l (callsIn_wide.2 (CMs.out V301 HT.out RS.out))).mono ?_
          rintro e V302 ⟨rfl, hy⟩
          replace BT := lh (BT.out.below hy BT.out.lt)
          replace TB := lh (TB.out.below hy TB.out.lt)
          replace BK := lh (BK.out.below hy BK.out.lt)
          replace BV := lh (BV.out.below hy BV.out.lt)
          replace D := lh (D.out.below hy D.out.lt)
          replace LB := lh (LB.out.below hy LB.out.lt)
          replace HT := lh (HT.out.below hy)
          replace RS := lh (RS.out.below hy)
          replace LSb := lh (LSb.out.below hy LSb.out.lt)
          replace FDb := lh (FDb.out.below hy FDb.out.lt)
          replace X := lh (X.out.below hy X.out.lt)
          replace KB := lh (KB.out.trans (hy.mono KB.out.size))
          clear hy
          cases a3 with
          | false =>
            gi_wp2
            have ht : ts (tw pre) s = tw pre := HTS.out.trans (if_neg (by simp))
            exact ⟨keepsF_below KB.out, Kept.below KB.out (fun q hq => by rcases hq with rfl | ⟨q1, q2⟩ <;> omega), HA.out.trans (.of_below KB.out), by rw [HTW.out, ht]; exact LSb.out, by rw [HTW.out, ht]; exact FDb.out, fun q hq => HF2.out q (by rw [HTW.out] at hq; exact hq)⟩
          | true =>
            cases htp : tw pre with
            | none =>
              have h4 := HCM0.out htp
              subst h4
              rw [htp] at LSb FDb KY TI
              have c56 := FDb.out.cell 0
              gi_wp2
              refine ⟨trivial, ?_⟩
              have L66 := lh (show (loadVar 42 ⟨bp, 0, none⟩).run Try.prog V302 = .ok (.agg s.k.cs) V302 from by have h := run_part_load (P := Try.prog) 42 0 s.k.cs.toList _ X.out SP.out Try.underlying42 rfl KI.out; rwa [Array.toArray_toList] at h)
              have AP := lh (HA.out.trans (.of_below KB.out))
              have KF := lh (keepsF_below (b := V101.heap.size) KB.out)
              have f1 := FDb.out.frozen 0
              gi_wp2_with (first | ((with_reducible refine wpListIn_load_want (op := ⟨some 66, .load 42 (.tmp 65), _, _, _, _⟩) ?g66x10a 42 (.tmp 65) ?g66x10b ⟨bp, 0, none⟩ ?g66x10c (.agg s.k.cs) L66.out ?_); (case g66x10a => rfl); (case g66x10b => rfl); (case g66x10c => rfl)) | ((with_reducible refine wpListIn_round_blk_store (op := ⟨none, .store 42 (.tmp 10) (.tmp 66), _, _, _, _⟩) ?sgu9 42 (.tmp 10) (.tmp 66) ?sou9 s.k.cs ?sxu9 ?syu9 LSb.out KY.out KI2.out KA.out ?_); (case sgu9 => rfl); (case sou9 => rfl); (case sxu9 => rfl); (case syu9 => rfl)))
              intro V303 hA1 hF1 hB1
              have F2 := lh (show Blk V303 (gS + 1) 4 _ from (hF1 _ (by omega)).trans FDb.out)
              have L2 := lh hA1
              have A2 := lh (Apart.of_store (B := gS) (n := 2) hF1 hB1 (Nat.le_refl _) (by omega))
              have K2 := lh (keepsF_store (b := V101.heap.size) LSb.out hF1 A2.out.size)
              have hgb := gb_cell V303 (gS + 1) 0 (.bool true)
              have A3 := lh (Apart.of_grown (B := gS) (n := 2) hgb (by omega) (by omega))
              have AW := lh ((Apart.of_below (B := gS) (n := 2) KB.out).trans (A2.out.trans A3.out))
              have F3 := lh (F2.out.set_ 0 (.bool true))
              have L3 := lh (L2.out.far (p := ⟨gS + 1, 0, none⟩) (by show gS ≠ gS + 1; omega) (.bool true))
              have c1 := F2.out.cell 0
              replace f1 := F2.out.frozen 0
              clear hA1 hF1 hB1 hgb LSb FDb L66 BT TB BK BV D LB HT RS X L2
              gi_wp2
              have ht : ts (tw pre) s = some s.k := HTS.out.trans (if_pos (by simp))
              exact ⟨(KF.out.trans K2.out).trans ((KeepsOthers.setCell _ _ _).from _), Kept.apart AW.out (fun q hq => by rcases hq with rfl | ⟨q1, q2⟩ <;> (constructor <;> omega)), HA.out.trans AW.out, by rw [HTW.out, ht]; exact L3.out, by rw [HTW.out, ht]; exact F3.out, fun q hq => HF2.out q (by rw [HTW.out] at hq; exact hq)⟩
            | some l0 =>
              have h4 := HCMP.out l0 htp
              have hl0f := HFIT.out l0 htp
              have CKl := lh (CKs.out l0 hl0f)
              rw [htp] at LSb FDb KY TI
              have c56 := FDb.out.cell 0
              change Hid (Blk _ gS 42 l0.cs) at LSb
              change Hid (s.k.cs.size = l0.cs.size) at KY
              have TI2 := lh (show (Try.prog.info? 42).map (·.size) = some l0.cs.size from TI.out)
              have L60 := lh (show (loadVar 42 ⟨bp, 0, none⟩).run Try.prog V302 = .ok (.agg s.k.cs) V302 from by have h := run_part_load (P := Try.prog) 42 0 s.k.cs.toList _ X.out SP.out Try.underlying42 rfl KI.out; rwa [Array.toArray_toList] at h)
              have L61 := lh (show (loadVar 42 ⟨gS, 0, none⟩).run Try.prog V302 = .ok (.agg l0.cs) V302 from run_blk_load (P := Try.prog) 42 (gS) _ LSb.out Try.underlying42 rfl TI2.out)
              gi_wp2_with (first | ((with_reducible refine wpListIn_load_want (op := ⟨some 60, .load 42 (.tmp 59), _, _, _, _⟩) ?g60x11a 42 (.tmp 59) ?g60x11b ⟨bp, 0, none⟩ ?g60x11c (.agg s.k.cs) L60.out ?_); (case g60x11a => rfl); (case g60x11b => rfl); (case g60x11c => rfl)) | ((with_reducible refine wpListIn_load_want (op := ⟨some 61, .load 42 (.tmp 10), _, _, _, _⟩) ?g61x12a 42 (.tmp 10) ?g61x12b ⟨gS, 0, none⟩ ?g61x12c (.agg l0.cs) L61.out ?_); (case g61x12a => rfl); (case g61x12b => rfl); (case g61x12c => rfl)))
              clear L60 L61 c56
              refine ⟨trivial, ?_⟩
              refine (CallsIn.inRound l (callsIn_wide.2 (CKl.out V302))).mono ?_
              rintro e V303 ⟨rfl, hy⟩
              replace BT := lh (BT.out.below hy BT.out.lt)
              replace TB := lh (TB.out.below hy TB.out.lt)
              replace BK := lh (BK.out.below hy BK.out.lt)
              replace BV := lh (BV.out.below hy BV.out.lt)
              replace D := lh (D.out.below hy D.out.lt)
              replace LB := lh (LB.out.below hy LB.out.lt)
              replace HT := lh (HT.out.below hy)
              replace RS := lh (RS.out.below hy)
              replace LSb := lh (LSb.out.below hy LSb.out.lt)
              replace FDb := lh (FDb.out.below hy FDb.out.lt)
              replace X := lh (X.out.below hy X.out.lt)
              replace KB := lh (KB.out.trans (hy.mono KB.out.size))
              clear hy
              generalize cmpN (bK s.k) (bK l0) = z at *
              have d1 : decide (z < 0) = a4 := h4.symm
              clear h4
              cases a4 with
              | false =>
                gi_wp2
                have ht : ts (tw pre) s = tw pre := HTS.out.trans (if_neg (by simp))
                exact ⟨keepsF_below KB.out, Kept.below KB.out (fun q hq => by rcases hq with rfl | ⟨q1, q2⟩ <;> omega), HA.out.trans (.of_below KB.out), by rw [HTW.out, ht, htp]; exact LSb.out, by rw [HTW.out, ht, htp]; exact FDb.out, fun q hq => HF2.out q (by rw [HTW.out] at hq; exact hq)⟩
              | true =>
                have L66 := lh (show (loadVar 42 ⟨bp, 0, none⟩).run Try.prog V303 = .ok (.agg s.k.cs) V303 from by have h := run_part_load (P := Try.prog) 42 0 s.k.cs.toList _ X.out SP.out Try.underlying42 rfl KI.out; rwa [Array.toArray_toList] at h)
                have AP := lh (HA.out.trans (.of_below KB.out))
                have KF := lh (keepsF_below (b := V101.heap.size) KB.out)
                have f1 := FDb.out.frozen 0
                gi_wp2_with (first | ((with_reducible refine wpListIn_load_want (op := ⟨some 66, .load 42 (.tmp 65), _, _, _, _⟩) ?g66x14a 42 (.tmp 65) ?g66x14b ⟨bp, 0, none⟩ ?g66x14c (.agg s.k.cs) L66.out ?_); (case g66x14a => rfl); (case g66x14b => rfl); (case g66x14c => rfl)) | ((with_reducible refine wpListIn_round_blk_store (op := ⟨none, .store 42 (.tmp 10) (.tmp 66), _, _, _, _⟩) ?sgu13 42 (.tmp 10) (.tmp 66) ?sou13 s.k.cs ?sxu13 ?syu13 LSb.out KY.out KI2.out KA.out ?_); (case sgu13 => rfl); (case sou13 => rfl); (case sxu13 => rfl); (case syu13 => rfl)))
                intro V304 hA1 hF1 hB1
                have F2 := lh (show Blk V304 (gS + 1) 4 _ from (hF1 _ (by omega)).trans FDb.out)
                have L2 := lh hA1
                have A2 := lh (Apart.of_store (B := gS) (n := 2) hF1 hB1 (Nat.le_refl _) (by omega))
                have K2 := lh (keepsF_store (b := V101.heap.size) LSb.out hF1 A2.out.size)
                have hgb := gb_cell V304 (gS + 1) 0 (.bool true)
                have A3 := lh (Apart.of_grown (B := gS) (n := 2) hgb (by omega) (by omega))
                have AW := lh ((Apart.of_below (B := gS) (n := 2) KB.out).trans (A2.out.trans A3.out))
                have F3 := lh (F2.out.set_ 0 (.bool true))
                have L3 := lh (L2.out.far (p := ⟨gS + 1, 0, none⟩) (by show gS ≠ gS + 1; omega) (.bool true))
                have c1 := F2.out.cell 0
                replace f1 := F2.out.frozen 0
                clear hA1 hF1 hB1 hgb LSb FDb L66 BT TB BK BV D LB HT RS X L2
                gi_wp2
                have ht : ts (tw pre) s = some s.k := HTS.out.trans (if_pos (by simp))
                exact ⟨(KF.out.trans K2.out).trans ((KeepsOthers.setCell _ _ _).from _), Kept.apart AW.out (fun q hq => by rcases hq with rfl | ⟨q1, q2⟩ <;> (constructor <;> omega)), HA.out.trans AW.out, by rw [HTW.out, ht]; exact L3.out, by rw [HTW.out, ht]; exact F3.out, fun q hq => HF2.out q (by rw [HTW.out] at hq; exact hq)⟩
    case done =>
      rintro DD ys Wn hD hys ⟨hA, hLS, hFD, hfit⟩ hK
      subst hys
      subst hact
      have DK := lh (show Dfr Wn DD from hK)
      have HBZ := lh (belowK_b (n₀ := V101.heap.size) (w := V101) (Nat.le_refl _))
      have KX := lh (K.out.trans (hA.below (by omega) K.out.size))
      have RT2 := lh (hA.blk RT.out (by omega))
      have TI : Hid ((Try.prog.info? 42).map (·.size) = some (tkC (tw (itF c 0 NS))).size) := by show _ = _; rw [tkC_size _ hfit, ← k0.cs_size k0_fit]; exact fl_ik _ k0_fit
      have TY : Hid ((tkC (tw (itF c 0 NS))).size = k0.cs.size) := by show _ = _; rw [tkC_size _ hfit, k0.cs_size k0_fit]
      have TA := lh (tkC_all (tw (itF c 0 NS)))
      have LS2 := lh hLS
      have FD2 := lh hFD
      have hgl := hLS.lt
      have hgf := hFD.lt
      have hWn := hA.size
      clear hA hLS hFD hfit hK CA EQ CM CH CK CT TWN TFT T00 hql HST HT TB FB LS FD BI RT BT BK BV D LB RB HCU K hNS
      obtain ⟨tb, htb⟩ : ∃ b, b = tw (itF c 0 NS) := ⟨_, rfl⟩
      rw [← htb] at TI TY TA LS2 FD2
      have HTB := lh htb
      clear htb
      go_upto_region 11 with fail
      refine wp_noP ?_
      refine wp_region_held (S := (fun w' : World => Blk w' (gS) 42 (tkC tb) ∧ Blk w' (gS + 1) 4 #[.bool tb.isSome])) (by kernel_rfl) ?_
      change wpAnyH _ _ _ _ _ _ _ _ Wn.drew
      have hy : Below Wn.heap.size Wn Wn.drew := (Below.refl _ _).drew
      replace KX := lh (KX.out.trans (hy.mono KX.out.size))
      replace RT2 := lh (RT2.out.below hy RT2.out.lt)
      replace LS2 := lh (LS2.out.below hy LS2.out.lt)
      replace FD2 := lh (FD2.out.below hy FD2.out.lt)
      replace DK := lh (DK.out.below hy DK.out.lt)
      clear hy
      generalize Wn.drew = Y11h0 at *
      refine tkA 0 (.agg (tkC tb)) ?_ ⟨LS2.out, FD2.out⟩ ?_
      · (intro w1 hS; obtain ⟨hS0, hS1⟩ := hS; exact exec_load 42 (.tmp 10) rfl _ rfl _ (run_blk_load (P := Try.prog) 42 (gS) _ hS0 Try.underlying42 rfl TI.out))
      simp only [Act.put, tS1, tS2, tS3]
      refine tkA 1 (?_) ?_ ⟨LS2.out, FD2.out⟩ ?_
      rotate_left
      · (intro w1 hS; obtain ⟨hS0, hS1⟩ := hS; have q := hS1.cell 0; go_simp; try with_reducible rfl)
      simp only [Act.put, tS1, tS2, tS3]
      refine tkO 2 (fun KK hK => ?_)
      rw [if_pos (by rfl)]
      refine wp_blk_store 42 (.tmp 6) (.tmp 67) rfl (tkC tb) rfl rfl RT2.out TY.out TI.out TA.out ?_
      intro Y11h1 hA hF hB
      replace KX := lh (KX.out.trans (hB _ (by omega)))
      replace LS2 := lh (show Blk _ _ _ _ from (hF _ (by omega)).trans LS2.out)
      replace FD2 := lh (show Blk _ _ _ _ from (hF _ (by omega)).trans FD2.out)
      replace DK := lh (show Dfr _ _ from (hF _ (by omega)).trans DK.out)
      replace RT2 := lh hA
      clear hA hF hB
      refine hK.out _ _ ⟨LS2.out, FD2.out⟩ (fun _ => ?_)
      clear hK KK
      try simp only [Act.put]
      refine tkA 3 (?_) ?_ ⟨LS2.out, FD2.out⟩ ?_
      rotate_left
      · (intro w1 hS; go_simp; try with_reducible rfl)
      simp only [Act.put, tS1, tS2, tS3]
      refine wpAnyH_done (by kernel_rfl) ?_ _
      simp only [noP]
      go_wp2
      refine ⟨by simp, .inl ⟨_, _, rfl, run_takeDeferred DK.out, ?_⟩⟩
      have hbz := HBZ.out Y11h1 DD _ (.deferred none) hD DK.out rfl rfl
      have RPz := RT2.out.below hbz (by omega)
      have Kz := KX.out.trans (hbz.mono hW0)
      exact ⟨_, results_cell_tmp 6 42 7 _ _ rfl rfl (run_blk_load (P := Try.prog) 42 _ _ RPz Try.underlying42 rfl TI.out), by rw [← HNS.out, ← HTB.out]; rfl, Kz⟩
    case stop =>
      rintro DD cd l Wn hD hl hf hK
      exact hf.elim
end Go.Proofs.Ythldpnifodbheaa
