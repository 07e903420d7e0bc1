/- Texts that the walks of this seat lean on, put together. -/
import Derived.Laws.CopyOwn
import Derived.BigQuiet
import Derived.Deep.QuietTactic
import Derived.Shelf.Abstract
import Derived.Shelf.RegionOpen
import Derived.LoopIn
import Derived.BigFrame
import Derived.RangeFuncBound
import Derived.RangeFuncBox
import Derived.RangeFuncCalls
import Derived.RangeFuncLeaves
import Derived.RangeFuncNested
import Derived.RangeFuncRecord
import Derived.Deep.CutBlock
import Derived.Deep.DeepCutAuto
import Derived.LoopTactic
import Derived.Handy
import Derived.Test.YthldpnifodbheaaTk
import Derived.Test.YthldpnifodbheaaM24
import Derived.Test.YthldpnifodbheaaM32
namespace Go.Proofs.Ythldpnifodbheaa
open Go.RowKit Go.Shelf
attribute [local go_sem] Oper.semAt_some
theorem zero46 (W : World) : (zeroValue 46).run Try.prog W = .ok (.agg zCe) W := by kernel_rfl
theorem i46c : (Try.prog.info? 46).map (·.size) = some 4 := by kernel_rfl
theorem i51c : (Try.prog.info? 51).map (·.size) = some 2 := by kernel_rfl
theorem zz46 : Hid (zCe.size = zCe.size) := rfl
theorem bl46 : Try.prog.built 46 [] = some zCe := by kernel_rfl
theorem bl51 : Try.prog.built 51 [] = some #[.int .i64 0, .int .i64 0] := by kernel_rfl
theorem pcP_all (x : Pl) : (pcP x).all (·.oneCell') = true := by unfold pcP; rw [← Array.all_toList]; rfl
theorem zz51 : Hid ((#[Value.int .i64 0, .int .i64 0] : Array Value).size = (#[Value.int .i64 0, .int .i64 0] : Array Value).size) := rfl
theorem load4 {w : World} {b : Nat} {x : Bool} (h : Blk w b 4 #[.bool x]) : (loadVar 4 ⟨b, 0, none⟩).run Try.prog w = .ok (.bool x) w := by
  have c0 : w.cell? ⟨b, 0, none⟩ = some (.bool x) := h.cell 0
  go_simp
set_option maxRecDepth 100000 in
set_option maxHeartbeats 4000000 in
theorem firstL_any (tn fn B : Nat) (cf : Cf) (c : Nat → Option Se) (hc : cf.Fit) (hok : okC cf = true) (k : Fl) (hk : k.Fit) (d : Nat) (v : Int) (pd pv : Nat) (w : World) (h : TS tn fn B cf c w) (hd : Boxed w pd 40 (.int .u16 (d : Int))) (hv : Boxed w pv 3 (.int .i64 v)) :
    Calls Try.prog 33 #[.pointer (some ⟨tn, 0, none⟩), .agg k.cs, .func (.func 34) #[] #[.pointer (some ⟨pd, 0, none⟩), .pointer (some ⟨pv, 0, none⟩)]] w fun e w' => e = .returned (.tuple #[.agg (rP (fst1 (lkN cf.st.toNat cf.sz.toNat c) (fun s => hitsB s d v) (plL cf k))), .agg (rC (fst1 (lkN cf.st.toNat cf.sz.toNat c) (fun s => hitsB s d v) (plL cf k))), .bool (fst1 (lkN cf.st.toNat cf.sz.toNat c) (fun s => hitsB s d v) (plL cf k)).isSome]) ∧ Below w.heap.size w w' := by
  have hl4 := plL_le cf k hok
  have hi42 := fl_ik k hk
  have CP := Lib.hid (fun s W (h : Blk W fn 110 (famC cf)) => place_any cf hc hok k hk fn s W h)
  have CG : Hid (∀ (x : Pl) (W : World), GdT B cf.st.toNat cf.sz.toNat c W → Calls Try.prog 36 #[.pointer (some ⟨B + 1, 0, none⟩), .agg (pcP x)] W fun e w' => e = .returned (.tuple #[.agg (oC (lkN cf.st.toNat cf.sz.toNat c x)), .bool (lkN cf.st.toNat cf.sz.toNat c x).isSome]) ∧ Below W.heap.size W w') := fun x W h => getT_any B cf.st.toNat cf.sz.toNat c (x.1 : Int) (x.2 : Int) W h
  have CQ := Lib.hid (fun s W (h1 : Blk W pd 40 #[.int .u16 (d : Int)]) (h2 : Blk W pv 3 #[.int .i64 v]) => lookF_any s d v pd pv W h1 h2)
  have CPL := Lib.hid (fun W => places_any (some ⟨fn, 0, none⟩) k.cs W)
  have hql := eql_fnP
  obtain ⟨qf, hqf⟩ : ∃ q : Se → Bool, q = (fun s => hitsB s d v) := ⟨_, rfl⟩
  have hqf2 : ∀ s : Se, hitsB s d v = qf s := fun s => by rw [hqf]
  simp only [hqf2] at CQ
  rw [← hqf]
  clear hqf hqf2
  obtain ⟨f, hf⟩ : ∃ f, f = lkN cf.st.toNat cf.sz.toNat c := ⟨_, rfl⟩
  rw [← hf] at CG ⊢
  clear hf
  obtain ⟨L, hL⟩ : ∃ L, L = plL cf k := ⟨_, rfl⟩
  rw [← hL] at hl4 CP ⊢
  clear hL
  obtain ⟨T0', T1', -⟩ := tbC_get fn B cf.ev
  have T0 := Lib.hid T0'
  have T1 := Lib.hid T1'
  have TB := Lib.hid h.T
  have HT := Lib.hid h
  have htw := h.lt
  have hft : fn < tn := by have := h.hF; have := h.hT; omega
  have FD := Lib.hid (show Blk w pd 40 #[.int .u16 (d : Int)] from hd)
  have FV := Lib.hid (show Blk w pv 3 #[.int .i64 v] from hv)
  obtain ⟨kc, hkc⟩ : ∃ x, x = k.cs := ⟨_, rfl⟩
  rw [← hkc] at CP CPL hi42 ⊢
  have IK := Lib.hid hi42
  obtain ⟨tc, htc⟩ : ∃ x, x = tbC fn B cf.ev := ⟨_, rfl⟩
  rw [← htc] at T0 T1 TB
  have FB := Lib.hid h.F
  clear T0' T1' h hkc hk htc hd hv
  obtain ⟨fc, hfc⟩ : ∃ x, x = famC cf := ⟨_, rfl⟩
  rw [← hfc] at FB CP
  clear hfc
  have K := Lib.hid (Below.refl w.heap.size w)
  have hz46 := zero46
  refine (callsIn_wide (n := 3)).1 ?_
  refine callsIn_of_wp_marks Try.func33 rfl trivial ?_ rfl
  refine wpIn_wide.2 ?_
  simp only [Try.ntmps33, List.size_toArray, List.length_cons, List.length_nil, Nat.reduceAdd, Nat.reduceSub, Array.replicate_succ, Array.replicate_zero, List.push_toArray, List.append_toArray, List.nil_append, List.cons_append]
  have hal := (Below.refl w.heap.size w).alloc (Nat.le_refl _) (.cells #[.pointer (some ⟨tn, 0, none⟩)] 31)
  replace K := Lib.hid (K.out.trans (hal.mono K.out.size))
  replace HT := Lib.hid (HT.out.below hal)
  replace TB := Lib.hid (TB.out.below hal TB.out.lt)
  replace FB := Lib.hid (FB.out.below hal FB.out.lt)
  replace FD := Lib.hid (FD.out.below hal FD.out.lt)
  replace FV := Lib.hid (FV.out.below hal FV.out.lt)
  have BT := Lib.hid (Blk.new w 31 #[.pointer (some ⟨tn, 0, none⟩)])
  clear hal
  have hal := (Below.refl (w.alloc (.cells #[.pointer (some ⟨tn, 0, none⟩)] 31)).heap.size (w.alloc (.cells #[.pointer (some ⟨tn, 0, none⟩)] 31))).alloc (Nat.le_refl _) (.cells kc 42)
  replace K := Lib.hid (K.out.trans (hal.mono K.out.size))
  replace HT := Lib.hid (HT.out.below hal)
  replace TB := Lib.hid (TB.out.below hal TB.out.lt)
  replace FB := Lib.hid (FB.out.below hal FB.out.lt)
  replace FD := Lib.hid (FD.out.below hal FD.out.lt)
  replace FV := Lib.hid (FV.out.below hal FV.out.lt)
  replace BT := Lib.hid (BT.out.below hal BT.out.lt)
  have BKq := Blk.new (w.alloc (.cells #[.pointer (some ⟨tn, 0, none⟩)] 31)) 42 kc
  simp only [World.size_alloc] at BKq
  have BK := Lib.hid BKq
  clear BKq
  clear hal
  have hal := (Below.refl ((w.alloc (.cells #[.pointer (some ⟨tn, 0, none⟩)] 31)).alloc (.cells kc 42)).heap.size ((w.alloc (.cells #[.pointer (some ⟨tn, 0, none⟩)] 31)).alloc (.cells kc 42))).alloc (Nat.le_refl _) (.cells #[.func (.func 34) #[] #[.pointer (some ⟨pd, 0, none⟩), .pointer (some ⟨pv, 0, none⟩)]] 89)
  replace K := Lib.hid (K.out.trans (hal.mono K.out.size))
  replace HT := Lib.hid (HT.out.below hal)
  replace TB := Lib.hid (TB.out.below hal TB.out.lt)
  replace FB := Lib.hid (FB.out.below hal FB.out.lt)
  replace FD := Lib.hid (FD.out.below hal FD.out.lt)
  replace FV := Lib.hid (FV.out.below hal FV.out.lt)
  replace BT := Lib.hid (BT.out.below hal BT.out.lt)
  replace BK := Lib.hid (BK.out.below hal BK.out.lt)
  have BFq := Blk.new ((w.alloc (.cells #[.pointer (some ⟨tn, 0, none⟩)] 31)).alloc (.cells kc 42)) 89 #[.func (.func 34) #[] #[.pointer (some ⟨pd, 0, none⟩), .pointer (some ⟨pv, 0, none⟩)]]
  simp only [World.size_alloc] at BFq
  have BF := Lib.hid BFq
  clear BFq
  clear hal
  have hal := (Below.refl (((w.alloc (.cells #[.pointer (some ⟨tn, 0, none⟩)] 31)).alloc (.cells kc 42)).alloc (.cells #[.func (.func 34) #[] #[.pointer (some ⟨pd, 0, none⟩), .pointer (some ⟨pv, 0, none⟩)]] 89)).heap.size (((w.alloc (.cells #[.pointer (some ⟨tn, 0, none⟩)] 31)).alloc (.cells kc 42)).alloc (.cells #[.func (.func 34) #[] #[.pointer (some ⟨pd, 0, none⟩), .pointer (some ⟨pv, 0, none⟩)]] 89))).alloc (Nat.le_refl _) (.cells #[.int .i64 0, .int .i64 0] 51)
  replace K := Lib.hid (K.out.trans (hal.mono K.out.size))
  replace HT := Lib.hid (HT.out.below hal)
  replace TB := Lib.hid (TB.out.below hal TB.out.lt)
  replace FB := Lib.hid (FB.out.below hal FB.out.lt)
  replace FD := Lib.hid (FD.out.below hal FD.out.lt)
  replace FV := Lib.hid (FV.out.below hal FV.out.lt)
  replace BT := Lib.hid (BT.out.below hal BT.out.lt)
  replace BK := Lib.hid (BK.out.below hal BK.out.lt)
  replace BF := Lib.hid (BF.out.below hal BF.out.lt)
  have RPq := Blk.new (((w.alloc (.cells #[.pointer (some ⟨tn, 0, none⟩)] 31)).alloc (.cells kc 42)).alloc (.cells #[.func (.func 34) #[] #[.pointer (some ⟨pd, 0, none⟩), .pointer (some ⟨pv, 0, none⟩)]] 89)) 51 #[.int .i64 0, .int .i64 0]
  simp only [World.size_alloc] at RPq
  have RP := Lib.hid RPq
  clear RPq
  clear hal
  have hal := (Below.refl ((((w.alloc (.cells #[.pointer (some ⟨tn, 0, none⟩)] 31)).alloc (.cells kc 42)).alloc (.cells #[.func (.func 34) #[] #[.pointer (some ⟨pd, 0, none⟩), .pointer (some ⟨pv, 0, none⟩)]] 89)).alloc (.cells #[.int .i64 0, .int .i64 0] 51)).heap.size ((((w.alloc (.cells #[.pointer (some ⟨tn, 0, none⟩)] 31)).alloc (.cells kc 42)).alloc (.cells #[.func (.func 34) #[] #[.pointer (some ⟨pd, 0, none⟩), .pointer (some ⟨pv, 0, none⟩)]] 89)).alloc (.cells #[.int .i64 0, .int .i64 0] 51))).alloc (Nat.le_refl _) (.cells zCe 46)
  replace K := Lib.hid (K.out.trans (hal.mono K.out.size))
  replace HT := Lib.hid (HT.out.below hal)
  replace TB := Lib.hid (TB.out.below hal TB.out.lt)
  replace FB := Lib.hid (FB.out.below hal FB.out.lt)
  replace FD := Lib.hid (FD.out.below hal FD.out.lt)
  replace FV := Lib.hid (FV.out.below hal FV.out.lt)
  replace BT := Lib.hid (BT.out.below hal BT.out.lt)
  replace BK := Lib.hid (BK.out.below hal BK.out.lt)
  replace BF := Lib.hid (BF.out.below hal BF.out.lt)
  replace RP := Lib.hid (RP.out.below hal RP.out.lt)
  have RCq := Blk.new ((((w.alloc (.cells #[.pointer (some ⟨tn, 0, none⟩)] 31)).alloc (.cells kc 42)).alloc (.cells #[.func (.func 34) #[] #[.pointer (some ⟨pd, 0, none⟩), .pointer (some ⟨pv, 0, none⟩)]] 89)).alloc (.cells #[.int .i64 0, .int .i64 0] 51)) 46 zCe
  simp only [World.size_alloc] at RCq
  have RC := Lib.hid RCq
  clear RCq
  clear hal
  have hal := (Below.refl (((((w.alloc (.cells #[.pointer (some ⟨tn, 0, none⟩)] 31)).alloc (.cells kc 42)).alloc (.cells #[.func (.func 34) #[] #[.pointer (some ⟨pd, 0, none⟩), .pointer (some ⟨pv, 0, none⟩)]] 89)).alloc (.cells #[.int .i64 0, .int .i64 0] 51)).alloc (.cells zCe 46)).heap.size (((((w.alloc (.cells #[.pointer (some ⟨tn, 0, none⟩)] 31)).alloc (.cells kc 42)).alloc (.cells #[.func (.func 34) #[] #[.pointer (some ⟨pd, 0, none⟩), .pointer (some ⟨pv, 0, none⟩)]] 89)).alloc (.cells #[.int .i64 0, .int .i64 0] 51)).alloc (.cells zCe 46))).alloc (Nat.le_refl _) (.cells #[.bool false] 4)
  replace K := Lib.hid (K.out.trans (hal.mono K.out.size))
  replace HT := Lib.hid (HT.out.below hal)
  replace TB := Lib.hid (TB.out.below hal TB.out.lt)
  replace FB := Lib.hid (FB.out.below hal FB.out.lt)
  replace FD := Lib.hid (FD.out.below hal FD.out.lt)
  replace FV := Lib.hid (FV.out.below hal FV.out.lt)
  replace BT := Lib.hid (BT.out.below hal BT.out.lt)
  replace BK := Lib.hid (BK.out.below hal BK.out.lt)
  replace BF := Lib.hid (BF.out.below hal BF.out.lt)
  replace RP := Lib.hid (RP.out.below hal RP.out.lt)
  replace RC := Lib.hid (RC.out.below hal RC.out.lt)
  have RBq := Blk.new (((((w.alloc (.cells #[.pointer (some ⟨tn, 0, none⟩)] 31)).alloc (.cells kc 42)).alloc (.cells #[.func (.func 34) #[] #[.pointer (some ⟨pd, 0, none⟩), .pointer (some ⟨pv, 0, none⟩)]] 89)).alloc (.cells #[.int .i64 0, .int .i64 0] 51)).alloc (.cells zCe 46)) 4 #[.bool false]
  simp only [World.size_alloc] at RBq
  have RB := Lib.hid RBq
  clear RBq
  clear hal
  go_upto_region 1 with fail
  have hzV1 : Hid (((((((w.alloc (.cells #[.pointer (some ⟨tn, 0, none⟩)] 31)).alloc (.cells kc 42)).alloc (.cells #[.func (.func 34) #[] #[.pointer (some ⟨pd, 0, none⟩), .pointer (some ⟨pv, 0, none⟩)]] 89)).alloc (.cells #[.int .i64 0, .int .i64 0] 51)).alloc (.cells zCe 46)).alloc (.cells #[.bool false] 4)).heap.size = w.heap.size + 1 + 1 + 1 + 1 + 1 + 1) := by show _ = _; simp only [World.size_alloc]
  generalize ((((((w.alloc (.cells #[.pointer (some ⟨tn, 0, none⟩)] 31)).alloc (.cells kc 42)).alloc (.cells #[.func (.func 34) #[] #[.pointer (some ⟨pd, 0, none⟩), .pointer (some ⟨pv, 0, none⟩)]] 89)).alloc (.cells #[.int .i64 0, .int .i64 0] 51)).alloc (.cells zCe 46)).alloc (.cells #[.bool false] 4)) = V1 at *
  clear hz46
  refine wp_noP ?_
  refine wp_region_held (S := (fun w' : World => Blk w' (w.heap.size) 31 #[.pointer (some ⟨tn, 0, none⟩)] ∧ Blk w' (w.heap.size + 1) 42 kc ∧ Blk w' (tn) 80 tc)) (by kernel_rfl) ?_
  change wpAnyH _ _ _ _ _ _ _ _ V1.drew
  have hy : Below V1.heap.size V1 V1.drew := (Below.refl _ _).drew
  replace K := Lib.hid (K.out.trans (hy.mono K.out.size))
  replace HT := Lib.hid (HT.out.below hy)
  replace TB := Lib.hid (TB.out.below hy TB.out.lt)
  replace FB := Lib.hid (FB.out.below hy FB.out.lt)
  replace FD := Lib.hid (FD.out.below hy FD.out.lt)
  replace FV := Lib.hid (FV.out.below hy FV.out.lt)
  replace BT := Lib.hid (BT.out.below hy BT.out.lt)
  replace BK := Lib.hid (BK.out.below hy BK.out.lt)
  replace BF := Lib.hid (BF.out.below hy BF.out.lt)
  replace RP := Lib.hid (RP.out.below hy RP.out.lt)
  replace RC := Lib.hid (RC.out.below hy RC.out.lt)
  replace RB := Lib.hid (RB.out.below hy RB.out.lt)
  clear hy
  generalize V1.drew = Y1h0 at *
  refine tkA 0 (?_) ?_ ⟨BT.out, BK.out, TB.out⟩ ?_
  rotate_left
  · (intro w1 hS; obtain ⟨hS0, hS1, hS2⟩ := hS; have q := hS0.cell 0; go_simp; try with_reducible rfl)
  simp only [Act.put, tS1, tS2, tS3]
  refine tkA 1 (?_) ?_ ⟨BT.out, BK.out, TB.out⟩ ?_
  rotate_left
  · (intro w1 hS; go_simp; try with_reducible rfl)
  simp only [Act.put, tS1, tS2, tS3]
  refine tkA 2 (?_) ?_ ⟨BT.out, BK.out, TB.out⟩ ?_
  rotate_left
  · (intro w1 hS; go_simp; try with_reducible rfl)
  simp only [Act.put, tS1, tS2, tS3]
  refine tkA 3 (?_) ?_ ⟨BT.out, BK.out, TB.out⟩ ?_
  rotate_left
  · (intro w1 hS; obtain ⟨hS0, hS1, hS2⟩ := hS; have q := (hS2.cell 0).trans T0.out; go_simp; try with_reducible rfl)
  simp only [Act.put, tS1, tS2, tS3]
  refine tkA 4 (.agg kc) ?_ ⟨BT.out, BK.out, TB.out⟩ ?_
  · (intro w1 hS; obtain ⟨hS0, hS1, hS2⟩ := hS; exact exec_load 42 (.tmp 4) rfl _ rfl _ (run_blk_load (P := Try.prog) 42 (w.heap.size + 1) _ hS1 Try.underlying42 rfl IK.out))
  simp only [Act.put, tS1, tS2, tS3]
  obtain ⟨gI, hgI⟩ : ∃ g, g = Y1h0.heap.size := ⟨_, rfl⟩
  have hI0 : w.heap.size + 1 + 1 + 1 + 1 + 1 < gI := by rw [hgI]; exact RB.out.lt
  refine tkO 5 (fun KK hK => ?_)
  go_simp
  refine (CPL.out Y1h0).mono ?_
  rintro e Y1h1 ⟨rfl, h1, h2, hy⟩
  replace K := Lib.hid (K.out.trans (hy.mono K.out.size))
  replace HT := Lib.hid (HT.out.below hy)
  replace TB := Lib.hid (TB.out.below hy TB.out.lt)
  replace FB := Lib.hid (FB.out.below hy FB.out.lt)
  replace FD := Lib.hid (FD.out.below hy FD.out.lt)
  replace FV := Lib.hid (FV.out.below hy FV.out.lt)
  replace BT := Lib.hid (BT.out.below hy BT.out.lt)
  replace BK := Lib.hid (BK.out.below hy BK.out.lt)
  replace BF := Lib.hid (BF.out.below hy BF.out.lt)
  replace RP := Lib.hid (RP.out.below hy RP.out.lt)
  replace RC := Lib.hid (RC.out.below hy RC.out.lt)
  replace RB := Lib.hid (RB.out.below hy RB.out.lt)
  clear hy
  rw [← hgI] at h1 h2 ⊢
  have PF := Lib.hid h1
  have PK := Lib.hid h2
  clear h1 h2 hgI
  refine hK.out _ _ ⟨BT.out, BK.out, TB.out⟩ (fun _ => ?_)
  clear hK KK
  try simp only [Act.put, tS1, tS2, tS3]
  refine wpAnyH_done (by kernel_rfl) ?_ _
  simp only [noP]
  go_wp2_with fail
  refine (wpIn_wide (n := 3)).1 ?_
  gi_wp2_with fail
  have hI1 := PK.out.lt
  have HST := Lib.hid (itp_stops 2 (by omega) gI (gI + 1) fn L kc fc hi42 hl4 Y1h1 CP.out PF.out PK.out FB.out)
  refine name_act fun act hact => ?_
  refine wpIn_rangeFunc_ownH (a := act) rfl (by omega) (gf := 62) (lb := #[.pointer (some ⟨gI, 0, none⟩), .pointer (some ⟨gI + 1, 0, none⟩)]) (by rw [hact]; rfl) trivial (enters_of Try.func62 (by kernel_rfl) rfl)
    HST.out (fun h k => Kept.trans h k) (kept_b (fun k hk => by rcases hk with rfl | rfl | rfl <;> omega)) (Below.refl _ _) (fun _ => rfl)
    (fun pre W' => Below Y1h1.heap.size Y1h1 W' ∧ fst1 f qf pre = none)
    (fun cd pre W' => cd = .ret ∧ ∃ o, fst1 f qf pre = some o ∧ Blk W' (w.heap.size + 1 + 1 + 1) 51 (pcP o.1) ∧ Blk W' (w.heap.size + 1 + 1 + 1 + 1) 46 o.2.ce ∧ Blk W' (w.heap.size + 1 + 1 + 1 + 1 + 1) 4 #[.bool true] ∧ Below w.heap.size w W')
    (OwnFrom.and (ownFrom_below (Nat.le_refl _) (Nat.le_refl _)) (ownFrom_pure _ (fun pre => fst1 f qf pre = none)))
    (fun cd s A' B' row hs hg hr => by
      obtain ⟨e1, o, e2, e3, e4, e5, e6⟩ := hs
      exact ⟨e1, o, e2, blk_own _ _ _ _ () A' B' row e3 hg hr, blk_own _ _ _ _ () A' B' row e4 hg hr, blk_own _ _ _ _ () A' B' row e5 hg hr, ownFrom_below (Nat.le_refl _) K.out.size () A' B' row e6 hg hr⟩)
    ⟨Below.refl _ _, rfl⟩
    (fun x a' W' => ∃ bp, Y1h1.heap.size ≤ bp ∧ Blk W' bp 51 (pcP x) ∧ a' = { tmps := (act.tmps.setIfInBounds 18 (.agg (pcP x))).setIfInBounds 9 (.pointer (some ⟨bp, 0, none⟩)), defers := [] })
    (fun x a' _ A' B' row hs hg hr => by
      obtain ⟨bp, e1, e2, e3⟩ := hs
      exact ⟨bp, e1, blk_own _ _ bp _ () A' B' row e2 hg hr, e3⟩)
    ?assign ?body ?done ?stop
  case assign =>
    intro l pre x W' KK hI hK
    have hsz := hI.1.size
    subst hact
    clear CP CG CQ CPL hql HST HT TB FB
    unfold pcP at hK ⊢
    gi_wp2
    exact hK _ _ ((KeepsOthers.alloc _ _).from _) (Kept.below ((Below.refl _ W').alloc (Nat.le_refl _) _) (fun k hk => by rcases hk with rfl | rfl | rfl <;> omega)) ⟨hI.1.alloc hsz _, hI.2⟩ ⟨W'.heap.size, hsz, Blk.new _ _ _, rfl⟩
  case body =>
    rintro l pre x a' W' hwl hrec ⟨hB, hnone⟩ ⟨bp, hbp, hbb, rfl⟩ hlt
    subst hact
    simp only [tS1, tS2, tS3]
    have HNN := Lib.hid hnone
    have PX := Lib.hid hbb
    have HB := Lib.hid hB
    have HBP := Lib.hid hbp
    clear hnone hbb CP CPL hql HST hrec hwl hlt hi42 hl4 PF PK
    replace K := Lib.hid (K.out.trans (hB.mono K.out.size))
    replace HT := Lib.hid (HT.out.below hB)
    replace TB := Lib.hid (TB.out.below hB TB.out.lt)
    replace FB := Lib.hid (FB.out.below hB FB.out.lt)
    replace FD := Lib.hid (FD.out.below hB FD.out.lt)
    replace FV := Lib.hid (FV.out.below hB FV.out.lt)
    replace BT := Lib.hid (BT.out.below hB BT.out.lt)
    replace BK := Lib.hid (BK.out.below hB BK.out.lt)
    replace BF := Lib.hid (BF.out.below hB BF.out.lt)
    replace RP := Lib.hid (RP.out.below hB RP.out.lt)
    replace RC := Lib.hid (RC.out.below hB RC.out.lt)
    replace RB := Lib.hid (RB.out.below hB RB.out.lt)
    clear hB
    have hRB := RB.out.lt
    have hPX := PX.out.lt
    have hTn := TB.out.lt
    have hW0 := HB.out.size
    have hKs := K.out.size
    have KB := Lib.hid (Below.refl W'.heap.size W')
    have IPX : Hid ((Try.prog.info? 51).map (·.size) = some (pcP x).size) := i51c
    have hFD := FD.out.lt
    have hFV := FV.out.lt
    have CGx := Lib.hid (CG.out x)
    cases hx : f x with
    | none =>
      rw [hx] at CGx
      have HX := Lib.hid (fst1_one_none f qf pre x HNN.out hx)
      have ZI : Hid ((Try.prog.info? 84).map (·.size) = some zSe.size) := by show _ = _; rw [zSe_size]; exact i84
      have ZA : Hid (zSe.all (·.oneCell') = true) := oC_all none
      change Hid (∀ W, _ → Calls _ _ _ _ fun e w' => e = .returned (.tuple #[.agg zSe, .bool false]) ∧ _) at CGx
      clear hx CG CQ
      gi_wp2_with fail
      refine wpIn_region_held_round (S := (fun w' : World => Blk w' (w.heap.size) 31 #[.pointer (some ⟨tn, 0, none⟩)] ∧ Blk w' (bp) 51 (pcP x) ∧ Blk w' (tn) 80 tc)) (by kernel_rfl) (by kernel_rfl) (fun ⟨_, _, h⟩ => h) ?_
      have hy : Below W'.heap.size W' W'.drew := (Below.refl _ _).drew
      replace K := Lib.hid (K.out.trans (hy.mono K.out.size))
      replace HT := Lib.hid (HT.out.below hy)
      replace TB := Lib.hid (TB.out.below hy TB.out.lt)
      replace FB := Lib.hid (FB.out.below hy FB.out.lt)
      replace FD := Lib.hid (FD.out.below hy FD.out.lt)
      replace FV := Lib.hid (FV.out.below hy FV.out.lt)
      replace BT := Lib.hid (BT.out.below hy BT.out.lt)
      replace BK := Lib.hid (BK.out.below hy BK.out.lt)
      replace BF := Lib.hid (BF.out.below hy BF.out.lt)
      replace RP := Lib.hid (RP.out.below hy RP.out.lt)
      replace RC := Lib.hid (RC.out.below hy RC.out.lt)
      replace RB := Lib.hid (RB.out.below hy RB.out.lt)
      replace PX := Lib.hid (PX.out.below hy PX.out.lt)
      replace HB := Lib.hid (HB.out.trans (hy.mono HB.out.size))
      replace KB := Lib.hid (KB.out.trans (hy.mono KB.out.size))
      clear hy
      generalize W'.drew = Y3h0 at *
      refine tkA 0 (?_) ?_ ⟨BT.out, PX.out, TB.out⟩ ?_
      rotate_left
      · (intro w1 hS; obtain ⟨hS0, hS1, hS2⟩ := hS; have q := hS0.cell 0; go_simp; try with_reducible rfl)
      simp only [Act.put, tS1, tS2, tS3]
      refine tkA 1 (?_) ?_ ⟨BT.out, PX.out, TB.out⟩ ?_
      rotate_left
      · (intro w1 hS; go_simp; try with_reducible rfl)
      simp only [Act.put, tS1, tS2, tS3]
      refine tkA 2 (?_) ?_ ⟨BT.out, PX.out, TB.out⟩ ?_
      rotate_left
      · (intro w1 hS; go_simp; try with_reducible rfl)
      simp only [Act.put, tS1, tS2, tS3]
      refine tkA 3 (?_) ?_ ⟨BT.out, PX.out, TB.out⟩ ?_
      rotate_left
      · (intro w1 hS; obtain ⟨hS0, hS1, hS2⟩ := hS; have q := (hS2.cell 1).trans T1.out; go_simp; try with_reducible rfl)
      simp only [Act.put, tS1, tS2, tS3]
      refine tkA 4 (.agg (pcP x)) ?_ ⟨BT.out, PX.out, TB.out⟩ ?_
      · (intro w1 hS; obtain ⟨hS0, hS1, hS2⟩ := hS; exact exec_load 51 (.tmp 9) rfl _ rfl _ (run_blk_load (P := Try.prog) 51 (bp) _ hS1 Try.underlying51 rfl IPX.out))
      simp only [Act.put, tS1, tS2, tS3]
      refine tkB 5 9 (fun KK hK => ?_) (fun KK hK => ?_)
      · skip
        go_simp
        refine (CGx.out Y3h0 HT.out.G).mono ?_
        rintro e Y3h1 ⟨rfl, hy⟩
        replace K := Lib.hid (K.out.trans (hy.mono K.out.size))
        replace HT := Lib.hid (HT.out.below hy)
        replace TB := Lib.hid (TB.out.below hy TB.out.lt)
        replace FB := Lib.hid (FB.out.below hy FB.out.lt)
        replace FD := Lib.hid (FD.out.below hy FD.out.lt)
        replace FV := Lib.hid (FV.out.below hy FV.out.lt)
        replace BT := Lib.hid (BT.out.below hy BT.out.lt)
        replace BK := Lib.hid (BK.out.below hy BK.out.lt)
        replace BF := Lib.hid (BF.out.below hy BF.out.lt)
        replace RP := Lib.hid (RP.out.below hy RP.out.lt)
        replace RC := Lib.hid (RC.out.below hy RC.out.lt)
        replace RB := Lib.hid (RB.out.below hy RB.out.lt)
        replace PX := Lib.hid (PX.out.below hy PX.out.lt)
        replace HB := Lib.hid (HB.out.trans (hy.mono HB.out.size))
        replace KB := Lib.hid (KB.out.trans (hy.mono KB.out.size))
        clear hy
        refine hK.out _ _ ⟨BT.out, PX.out, TB.out⟩ (fun _ => ?_)
        clear hK KK
        try simp only [Act.put, tS1, tS2, tS3]
        refine tkA 6 (?_) ?_ ⟨BT.out, PX.out, TB.out⟩ ?_
        rotate_left
        · (intro w1 hS; go_simp; try with_reducible rfl)
        simp only [Act.put, tS1, tS2, tS3]
        refine tkA 7 (?_) ?_ ⟨BT.out, PX.out, TB.out⟩ ?_
        rotate_left
        · (intro w1 hS; go_simp; try with_reducible rfl)
        simp only [Act.put, tS1, tS2, tS3]
        refine tkA 8 (?_) ?_ ⟨BT.out, PX.out, TB.out⟩ ?_
        rotate_left
        · (intro w1 hS; go_simp; try with_reducible rfl)
        simp only [Act.put, tS1, tS2, tS3]
        have hz84 := zero84
        refine tkO 9 (fun KK hK => ?_)
        go_simp
        have pb := Blk.new Y3h1 84 zSe
        have hy := (Below.refl Y3h1.heap.size Y3h1).alloc (Nat.le_refl _) (.cells zSe 84)
        obtain ⟨gX, hgX⟩ : ∃ g, g = Y3h1.heap.size := ⟨_, rfl⟩
        have hg0X : W'.heap.size ≤ gX := by rw [hgX]; exact KB.out.size
        replace K := Lib.hid (K.out.trans (hy.mono K.out.size))
        replace HT := Lib.hid (HT.out.below hy)
        replace TB := Lib.hid (TB.out.below hy TB.out.lt)
        replace FB := Lib.hid (FB.out.below hy FB.out.lt)
        replace FD := Lib.hid (FD.out.below hy FD.out.lt)
        replace FV := Lib.hid (FV.out.below hy FV.out.lt)
        replace BT := Lib.hid (BT.out.below hy BT.out.lt)
        replace BK := Lib.hid (BK.out.below hy BK.out.lt)
        replace BF := Lib.hid (BF.out.below hy BF.out.lt)
        replace RP := Lib.hid (RP.out.below hy RP.out.lt)
        replace RC := Lib.hid (RC.out.below hy RC.out.lt)
        replace RB := Lib.hid (RB.out.below hy RB.out.lt)
        replace PX := Lib.hid (PX.out.below hy PX.out.lt)
        replace HB := Lib.hid (HB.out.trans (hy.mono HB.out.size))
        replace KB := Lib.hid (KB.out.trans (hy.mono KB.out.size))
        rw [← hgX] at pb ⊢
        have X := Lib.hid pb
        clear pb hy hgX
        generalize Y3h1.alloc (.cells zSe 84) = Y3h2 at *
        refine hK.out _ _ ⟨BT.out, PX.out, TB.out⟩ (fun _ => ?_)
        clear hK KK
        try simp only [Act.put, tS1, tS2, tS3]
        clear hz84
        refine tkO 10 (fun KK hK => ?_)
        rw [if_pos (by rfl)]
        refine wp_blk_store 84 (.tmp 10) (.tmp 26) rfl zSe rfl rfl X.out zz84 ZI.out ZA.out ?_
        intro Y3h3 hA hF hB
        replace K := Lib.hid (K.out.trans (hB _ (by omega)))
        replace HT := Lib.hid (HT.out.belowB (hB (w.heap.size) (by omega)) (by omega))
        replace TB := Lib.hid (show Blk _ _ _ _ from (hF _ (by omega)).trans TB.out)
        replace FB := Lib.hid (show Blk _ _ _ _ from (hF _ (by omega)).trans FB.out)
        replace FD := Lib.hid (show Blk _ _ _ _ from (hF _ (by omega)).trans FD.out)
        replace FV := Lib.hid (show Blk _ _ _ _ from (hF _ (by omega)).trans FV.out)
        replace BT := Lib.hid (show Blk _ _ _ _ from (hF _ (by omega)).trans BT.out)
        replace BK := Lib.hid (show Blk _ _ _ _ from (hF _ (by omega)).trans BK.out)
        replace BF := Lib.hid (show Blk _ _ _ _ from (hF _ (by omega)).trans BF.out)
        replace RP := Lib.hid (show Blk _ _ _ _ from (hF _ (by omega)).trans RP.out)
        replace RC := Lib.hid (show Blk _ _ _ _ from (hF _ (by omega)).trans RC.out)
        replace RB := Lib.hid (show Blk _ _ _ _ from (hF _ (by omega)).trans RB.out)
        replace PX := Lib.hid (show Blk _ _ _ _ from (hF _ (by omega)).trans PX.out)
        replace HB := Lib.hid (HB.out.trans (hB _ (by omega)))
        replace KB := Lib.hid (KB.out.trans (hB _ (by omega)))
        replace X := Lib.hid hA
        clear hA hF hB
        refine hK.out _ _ ⟨BT.out, PX.out, TB.out⟩ (fun _ => ?_)
        clear hK KK
        try simp only [Act.put]
        refine tkA 11 (?_) ?_ ⟨BT.out, PX.out, TB.out⟩ ?_
        rotate_left
        · (intro w1 hS; go_simp; try with_reducible rfl)
        simp only [Act.put, tS1, tS2, tS3]
        refine wpAnyH_done (by kernel_rfl) ?_ _
        gi_wp2
        refine ⟨fun f hf => (by cases hf), ?_⟩
        gi_wp2
        have hr := HB.out
        exact ⟨keepsF_below KB.out, Kept.below KB.out (fun k hk => by rcases hk with rfl | rfl | rfl <;> omega), HB.out, HX.out⟩
      · skip
        have hz84 := zero84
        go_simp
        have pb := Blk.new Y3h0 84 zSe
        have hy := (Below.refl Y3h0.heap.size Y3h0).alloc (Nat.le_refl _) (.cells zSe 84)
        obtain ⟨gX, hgX⟩ : ∃ g, g = Y3h0.heap.size := ⟨_, rfl⟩
        have hg0X : W'.heap.size ≤ gX := by rw [hgX]; exact KB.out.size
        replace K := Lib.hid (K.out.trans (hy.mono K.out.size))
        replace HT := Lib.hid (HT.out.below hy)
        replace TB := Lib.hid (TB.out.below hy TB.out.lt)
        replace FB := Lib.hid (FB.out.below hy FB.out.lt)
        replace FD := Lib.hid (FD.out.below hy FD.out.lt)
        replace FV := Lib.hid (FV.out.below hy FV.out.lt)
        replace BT := Lib.hid (BT.out.below hy BT.out.lt)
        replace BK := Lib.hid (BK.out.below hy BK.out.lt)
        replace BF := Lib.hid (BF.out.below hy BF.out.lt)
        replace RP := Lib.hid (RP.out.below hy RP.out.lt)
        replace RC := Lib.hid (RC.out.below hy RC.out.lt)
        replace RB := Lib.hid (RB.out.below hy RB.out.lt)
        replace PX := Lib.hid (PX.out.below hy PX.out.lt)
        replace HB := Lib.hid (HB.out.trans (hy.mono HB.out.size))
        replace KB := Lib.hid (KB.out.trans (hy.mono KB.out.size))
        rw [← hgX] at pb ⊢
        have X := Lib.hid pb
        clear pb hy hgX
        generalize Y3h0.alloc (.cells zSe 84) = Y3h1 at *
        refine hK.out _ _ ⟨BT.out, PX.out, TB.out⟩ (fun _ => ?_)
        clear hK KK
        try simp only [Act.put, tS1, tS2, tS3]
        clear hz84
        refine tkO 5 (fun KK hK => ?_)
        go_simp
        refine (CGx.out Y3h1 HT.out.G).mono ?_
        rintro e Y3h2 ⟨rfl, hy⟩
        replace K := Lib.hid (K.out.trans (hy.mono K.out.size))
        replace HT := Lib.hid (HT.out.below hy)
        replace TB := Lib.hid (TB.out.below hy TB.out.lt)
        replace FB := Lib.hid (FB.out.below hy FB.out.lt)
        replace FD := Lib.hid (FD.out.below hy FD.out.lt)
        replace FV := Lib.hid (FV.out.below hy FV.out.lt)
        replace BT := Lib.hid (BT.out.below hy BT.out.lt)
        replace BK := Lib.hid (BK.out.below hy BK.out.lt)
        replace BF := Lib.hid (BF.out.below hy BF.out.lt)
        replace RP := Lib.hid (RP.out.below hy RP.out.lt)
        replace RC := Lib.hid (RC.out.below hy RC.out.lt)
        replace RB := Lib.hid (RB.out.below hy RB.out.lt)
        replace PX := Lib.hid (PX.out.below hy PX.out.lt)
        replace HB := Lib.hid (HB.out.trans (hy.mono HB.out.size))
        replace KB := Lib.hid (KB.out.trans (hy.mono KB.out.size))
        replace X := Lib.hid (X.out.below hy X.out.lt)
        clear hy
        refine hK.out _ _ ⟨BT.out, PX.out, TB.out⟩ (fun _ => ?_)
        clear hK KK
        try simp only [Act.put, tS1, tS2, tS3]
        refine tkA 6 (?_) ?_ ⟨BT.out, PX.out, TB.out⟩ ?_
        rotate_left
        · (intro w1 hS; go_simp; try with_reducible rfl)
        simp only [Act.put, tS1, tS2, tS3]
        refine tkA 7 (?_) ?_ ⟨BT.out, PX.out, TB.out⟩ ?_
        rotate_left
        · (intro w1 hS; go_simp; try with_reducible rfl)
        simp only [Act.put, tS1, tS2, tS3]
        refine tkA 8 (?_) ?_ ⟨BT.out, PX.out, TB.out⟩ ?_
        rotate_left
        · (intro w1 hS; go_simp; try with_reducible rfl)
        simp only [Act.put, tS1, tS2, tS3]
        refine tkO 10 (fun KK hK => ?_)
        rw [if_pos (by rfl)]
        refine wp_blk_store 84 (.tmp 10) (.tmp 26) rfl zSe rfl rfl X.out zz84 ZI.out ZA.out ?_
        intro Y3h3 hA hF hB
        replace K := Lib.hid (K.out.trans (hB _ (by omega)))
        replace HT := Lib.hid (HT.out.belowB (hB (w.heap.size) (by omega)) (by omega))
        replace TB := Lib.hid (show Blk _ _ _ _ from (hF _ (by omega)).trans TB.out)
        replace FB := Lib.hid (show Blk _ _ _ _ from (hF _ (by omega)).trans FB.out)
        replace FD := Lib.hid (show Blk _ _ _ _ from (hF _ (by omega)).trans FD.out)
        replace FV := Lib.hid (show Blk _ _ _ _ from (hF _ (by omega)).trans FV.out)
        replace BT := Lib.hid (show Blk _ _ _ _ from (hF _ (by omega)).trans BT.out)
        replace BK := Lib.hid (show Blk _ _ _ _ from (hF _ (by omega)).trans BK.out)
        replace BF := Lib.hid (show Blk _ _ _ _ from (hF _ (by omega)).trans BF.out)
        replace RP := Lib.hid (show Blk _ _ _ _ from (hF _ (by omega)).trans RP.out)
        replace RC := Lib.hid (show Blk _ _ _ _ from (hF _ (by omega)).trans RC.out)
        replace RB := Lib.hid (show Blk _ _ _ _ from (hF _ (by omega)).trans RB.out)
        replace PX := Lib.hid (show Blk _ _ _ _ from (hF _ (by omega)).trans PX.out)
        replace HB := Lib.hid (HB.out.trans (hB _ (by omega)))
        replace KB := Lib.hid (KB.out.trans (hB _ (by omega)))
        replace X := Lib.hid hA
        clear hA hF hB
        refine hK.out _ _ ⟨BT.out, PX.out, TB.out⟩ (fun _ => ?_)
        clear hK KK
        try simp only [Act.put]
        refine tkA 11 (?_) ?_ ⟨BT.out, PX.out, TB.out⟩ ?_
        rotate_left
        · (intro w1 hS; go_simp; try with_reducible rfl)
        simp only [Act.put, tS1, tS2, tS3]
        refine wpAnyH_done (by kernel_rfl) ?_ _
        gi_wp2
        refine ⟨fun f hf => (by cases hf), ?_⟩
        gi_wp2
        have hr := HB.out
        exact ⟨keepsF_below KB.out, Kept.below KB.out (fun k hk => by rcases hk with rfl | rfl | rfl <;> omega), HB.out, HX.out⟩
    | some s =>
      rw [hx] at CGx
      have SI := s.ib
      have SA : Hid (s.cs.all (·.oneCell') = true) := oC_all (some s)
      have SY : Hid (s.cs.size = zSe.size) := by show _ = _; rw [s.size, zSe_size]
      have CQs := Lib.hid (CQ.out s)
      have SP := Lib.hid (seC_cell s.k s.fit true s.d s.v s.r)
      change Hid ((s.cs.toList.drop 37).take s.ce.toList.length = s.ce.toList) at SP
      have HX0 := Lib.hid (fun hq => fst1_one_no f qf pre x s HNN.out hx hq)
      have HX1 := Lib.hid (fun hq => fst1_one_yes f qf pre x s HNN.out hx hq)
      change Hid (∀ W, _ → Calls _ _ _ _ fun e w' => e = .returned (.tuple #[.agg s.cs, .bool true]) ∧ _) at CGx
      clear hx CG CQ
      gi_wp2_with fail
      refine wpIn_region_held_round (S := (fun w' : World => Blk w' (w.heap.size) 31 #[.pointer (some ⟨tn, 0, none⟩)] ∧ Blk w' (bp) 51 (pcP x) ∧ Blk w' (tn) 80 tc)) (by kernel_rfl) (by kernel_rfl) (fun ⟨_, _, h⟩ => h) ?_
      have hy : Below W'.heap.size W' W'.drew := (Below.refl _ _).drew
      replace K := Lib.hid (K.out.trans (hy.mono K.out.size))
      replace HT := Lib.hid (HT.out.below hy)
      replace TB := Lib.hid (TB.out.below hy TB.out.lt)
      replace FB := Lib.hid (FB.out.below hy FB.out.lt)
      replace FD := Lib.hid (FD.out.below hy FD.out.lt)
      replace FV := Lib.hid (FV.out.below hy FV.out.lt)
      replace BT := Lib.hid (BT.out.below hy BT.out.lt)
      replace BK := Lib.hid (BK.out.below hy BK.out.lt)
      replace BF := Lib.hid (BF.out.below hy BF.out.lt)
      replace RP := Lib.hid (RP.out.below hy RP.out.lt)
      replace RC := Lib.hid (RC.out.below hy RC.out.lt)
      replace RB := Lib.hid (RB.out.below hy RB.out.lt)
      replace PX := Lib.hid (PX.out.below hy PX.out.lt)
      replace HB := Lib.hid (HB.out.trans (hy.mono HB.out.size))
      replace KB := Lib.hid (KB.out.trans (hy.mono KB.out.size))
      clear hy
      generalize W'.drew = Y3h0 at *
      refine tkA 0 (?_) ?_ ⟨BT.out, PX.out, TB.out⟩ ?_
      rotate_left
      · (intro w1 hS; obtain ⟨hS0, hS1, hS2⟩ := hS; have q := hS0.cell 0; go_simp; try with_reducible rfl)
      simp only [Act.put, tS1, tS2, tS3]
      refine tkA 1 (?_) ?_ ⟨BT.out, PX.out, TB.out⟩ ?_
      rotate_left
      · (intro w1 hS; go_simp; try with_reducible rfl)
      simp only [Act.put, tS1, tS2, tS3]
      refine tkA 2 (?_) ?_ ⟨BT.out, PX.out, TB.out⟩ ?_
      rotate_left
      · (intro w1 hS; go_simp; try with_reducible rfl)
      simp only [Act.put, tS1, tS2, tS3]
      refine tkA 3 (?_) ?_ ⟨BT.out, PX.out, TB.out⟩ ?_
      rotate_left
      · (intro w1 hS; obtain ⟨hS0, hS1, hS2⟩ := hS; have q := (hS2.cell 1).trans T1.out; go_simp; try with_reducible rfl)
      simp only [Act.put, tS1, tS2, tS3]
      refine tkA 4 (.agg (pcP x)) ?_ ⟨BT.out, PX.out, TB.out⟩ ?_
      · (intro w1 hS; obtain ⟨hS0, hS1, hS2⟩ := hS; exact exec_load 51 (.tmp 9) rfl _ rfl _ (run_blk_load (P := Try.prog) 51 (bp) _ hS1 Try.underlying51 rfl IPX.out))
      simp only [Act.put, tS1, tS2, tS3]
      refine tkB 5 9 (fun KK hK => ?_) (fun KK hK => ?_)
      · skip
        go_simp
        refine (CGx.out Y3h0 HT.out.G).mono ?_
        rintro e Y3h1 ⟨rfl, hy⟩
        replace K := Lib.hid (K.out.trans (hy.mono K.out.size))
        replace HT := Lib.hid (HT.out.below hy)
        replace TB := Lib.hid (TB.out.below hy TB.out.lt)
        replace FB := Lib.hid (FB.out.below hy FB.out.lt)
        replace FD := Lib.hid (FD.out.below hy FD.out.lt)
        replace FV := Lib.hid (FV.out.below hy FV.out.lt)
        replace BT := Lib.hid (BT.out.below hy BT.out.lt)
        replace BK := Lib.hid (BK.out.below hy BK.out.lt)
        replace BF := Lib.hid (BF.out.below hy BF.out.lt)
        replace RP := Lib.hid (RP.out.below hy RP.out.lt)
        replace RC := Lib.hid (RC.out.below hy RC.out.lt)
        replace RB := Lib.hid (RB.out.below hy RB.out.lt)
        replace PX := Lib.hid (PX.out.below hy PX.out.lt)
        replace HB := Lib.hid (HB.out.trans (hy.mono HB.out.size))
        replace KB := Lib.hid (KB.out.trans (hy.mono KB.out.size))
        clear hy
        refine hK.out _ _ ⟨BT.out, PX.out, TB.out⟩ (fun _ => ?_)
        clear hK KK
        try simp only [Act.put, tS1, tS2, tS3]
        refine tkA 6 (?_) ?_ ⟨BT.out, PX.out, TB.out⟩ ?_
        rotate_left
        · (intro w1 hS; go_simp; try with_reducible rfl)
        simp only [Act.put, tS1, tS2, tS3]
        refine tkA 7 (?_) ?_ ⟨BT.out, PX.out, TB.out⟩ ?_
        rotate_left
        · (intro w1 hS; go_simp; try with_reducible rfl)
        simp only [Act.put, tS1, tS2, tS3]
        refine tkA 8 (?_) ?_ ⟨BT.out, PX.out, TB.out⟩ ?_
        rotate_left
        · (intro w1 hS; go_simp; try with_reducible rfl)
        simp only [Act.put, tS1, tS2, tS3]
        have hz84 := zero84
        refine tkO 9 (fun KK hK => ?_)
        go_simp
        have pb := Blk.new Y3h1 84 zSe
        have hy := (Below.refl Y3h1.heap.size Y3h1).alloc (Nat.le_refl _) (.cells zSe 84)
        obtain ⟨gX, hgX⟩ : ∃ g, g = Y3h1.heap.size := ⟨_, rfl⟩
        have hg0X : W'.heap.size ≤ gX := by rw [hgX]; exact KB.out.size
        replace K := Lib.hid (K.out.trans (hy.mono K.out.size))
        replace HT := Lib.hid (HT.out.below hy)
        replace TB := Lib.hid (TB.out.below hy TB.out.lt)
        replace FB := Lib.hid (FB.out.below hy FB.out.lt)
        replace FD := Lib.hid (FD.out.below hy FD.out.lt)
        replace FV := Lib.hid (FV.out.below hy FV.out.lt)
        replace BT := Lib.hid (BT.out.below hy BT.out.lt)
        replace BK := Lib.hid (BK.out.below hy BK.out.lt)
        replace BF := Lib.hid (BF.out.below hy BF.out.lt)
        replace RP := Lib.hid (RP.out.below hy RP.out.lt)
        replace RC := Lib.hid (RC.out.below hy RC.out.lt)
        replace RB := Lib.hid (RB.out.below hy RB.out.lt)
        replace PX := Lib.hid (PX.out.below hy PX.out.lt)
        replace HB := Lib.hid (HB.out.trans (hy.mono HB.out.size))
        replace KB := Lib.hid (KB.out.trans (hy.mono KB.out.size))
        rw [← hgX] at pb ⊢
        have X := Lib.hid pb
        clear pb hy hgX
        generalize Y3h1.alloc (.cells zSe 84) = Y3h2 at *
        refine hK.out _ _ ⟨BT.out, PX.out, TB.out⟩ (fun _ => ?_)
        clear hK KK
        try simp only [Act.put, tS1, tS2, tS3]
        clear hz84
        refine tkO 10 (fun KK hK => ?_)
        rw [if_pos (by rfl)]
        refine wp_blk_store 84 (.tmp 10) (.tmp 26) rfl s.cs rfl rfl X.out SY.out SI.out SA.out ?_
        intro Y3h3 hA hF hB
        replace K := Lib.hid (K.out.trans (hB _ (by omega)))
        replace HT := Lib.hid (HT.out.belowB (hB (w.heap.size) (by omega)) (by omega))
        replace TB := Lib.hid (show Blk _ _ _ _ from (hF _ (by omega)).trans TB.out)
        replace FB := Lib.hid (show Blk _ _ _ _ from (hF _ (by omega)).trans FB.out)
        replace FD := Lib.hid (show Blk _ _ _ _ from (hF _ (by omega)).trans FD.out)
        replace FV := Lib.hid (show Blk _ _ _ _ from (hF _ (by omega)).trans FV.out)
        replace BT := Lib.hid (show Blk _ _ _ _ from (hF _ (by omega)).trans BT.out)
        replace BK := Lib.hid (show Blk _ _ _ _ from (hF _ (by omega)).trans BK.out)
        replace BF := Lib.hid (show Blk _ _ _ _ from (hF _ (by omega)).trans BF.out)
        replace RP := Lib.hid (show Blk _ _ _ _ from (hF _ (by omega)).trans RP.out)
        replace RC := Lib.hid (show Blk _ _ _ _ from (hF _ (by omega)).trans RC.out)
        replace RB := Lib.hid (show Blk _ _ _ _ from (hF _ (by omega)).trans RB.out)
        replace PX := Lib.hid (show Blk _ _ _ _ from (hF _ (by omega)).trans PX.out)
        replace HB := Lib.hid (HB.out.trans (hB _ (by omega)))
        replace KB := Lib.hid (KB.out.trans (hB _ (by omega)))
        replace X := Lib.hid hA
        clear hA hF hB
        refine hK.out _ _ ⟨BT.out, PX.out, TB.out⟩ (fun _ => ?_)
        clear hK KK
        try simp only [Act.put]
        refine tkA 11 (?_) ?_ ⟨BT.out, PX.out, TB.out⟩ ?_
        rotate_left
        · (intro w1 hS; go_simp; try with_reducible rfl)
        simp only [Act.put, tS1, tS2, tS3]
        refine wpAnyH_done (by kernel_rfl) ?_ _
        have c5 := BF.out.cell 0
        have L31 : (loadVar 84 ⟨gX, 0, none⟩).run Try.prog Y3h3 = .ok (.agg s.cs) Y3h3 := run_blk_load (P := Try.prog) 84 gX _ X.out Try.underlying84 rfl SI.out
        replace L31 := Lib.hid L31
        gi_wp2_with ((with_reducible refine wpListIn_load_want (op := ⟨some 31, .load 84 (.tmp 10), _, _, _, _⟩) ?wg1 84 (.tmp 10) ?wo1 ⟨gX, 0, none⟩ ?wx1 (.agg s.cs) L31.out ?_); (case wg1 => rfl); (case wo1 => rfl); (case wx1 => rfl))
        refine ⟨trivial, ?_⟩
        refine (CallsIn.inRound l (callsIn_wide.2 (CQs.out Y3h3 FD.out FV.out))).mono ?_
        rintro e Vc ⟨rfl, hy⟩
        clear L31 c5
        replace K := Lib.hid (K.out.trans (hy.mono K.out.size))
        replace HT := Lib.hid (HT.out.below hy)
        replace TB := Lib.hid (TB.out.below hy TB.out.lt)
        replace FB := Lib.hid (FB.out.below hy FB.out.lt)
        replace FD := Lib.hid (FD.out.below hy FD.out.lt)
        replace FV := Lib.hid (FV.out.below hy FV.out.lt)
        replace BT := Lib.hid (BT.out.below hy BT.out.lt)
        replace BK := Lib.hid (BK.out.below hy BK.out.lt)
        replace BF := Lib.hid (BF.out.below hy BF.out.lt)
        replace RP := Lib.hid (RP.out.below hy RP.out.lt)
        replace RC := Lib.hid (RC.out.below hy RC.out.lt)
        replace RB := Lib.hid (RB.out.below hy RB.out.lt)
        replace PX := Lib.hid (PX.out.below hy PX.out.lt)
        replace HB := Lib.hid (HB.out.trans (hy.mono HB.out.size))
        replace KB := Lib.hid (KB.out.trans (hy.mono KB.out.size))
        replace X := Lib.hid (X.out.below hy X.out.lt)
        clear hy
        cases hq : qf s with
        | false =>
          gi_wp2
          have hr := HB.out
          exact ⟨keepsF_below KB.out, Kept.below KB.out (fun k hk => by rcases hk with rfl | rfl | rfl <;> omega), HB.out, HX0.out hq⟩
        | true =>
          have HX := Lib.hid (HX1.out hq)
          clear hq HX0 HX1 CQs CGx
          have KF := Lib.hid (keepsF_below (b := Y1h1.heap.size) KB.out)
          clear KB HB BT TB FB FD FV
          gi_wp2_with fail
          have IX0 := IPX.out
          have PY : Hid ((pcP x).size = (#[Value.int .i64 0, .int .i64 0] : Array Value).size) := rfl
          have PA : Hid ((pcP x).all (·.oneCell') = true) := pcP_all x
          have CY : Hid (s.ce.size = zCe.size) := rfl
          have CI : Hid ((Try.prog.info? 46).map (·.size) = some s.ce.size) := i46c
          have CA : Hid (s.ce.all (·.oneCell') = true) := ceC_all _ _ _ _
          have CI2 : Hid ((Try.prog.info? 46).map (·.size) = some s.ce.toList.length) := i46c
          refine wpIn_region_held_round (S := (fun w' : World => Blk w' (bp) 51 (pcP x) ∧ Blk w' (gX) 84 s.cs)) (by kernel_rfl) (by kernel_rfl) (fun ⟨_, _, h⟩ => h) ?_
          have hy : Below Vc.heap.size Vc Vc.drew := (Below.refl _ _).drew
          replace K := Lib.hid (K.out.trans (hy.mono K.out.size))
          replace HT := Lib.hid (HT.out.below hy)
          replace BK := Lib.hid (BK.out.below hy BK.out.lt)
          replace BF := Lib.hid (BF.out.below hy BF.out.lt)
          replace RP := Lib.hid (RP.out.below hy RP.out.lt)
          replace RC := Lib.hid (RC.out.below hy RC.out.lt)
          replace RB := Lib.hid (RB.out.below hy RB.out.lt)
          replace PX := Lib.hid (PX.out.below hy PX.out.lt)
          replace X := Lib.hid (X.out.below hy X.out.lt)
          replace KF := Lib.hid (KF.out.trans (keepsF_below hy))
          clear hy
          generalize Vc.drew = Y5h0 at *
          refine tkA 0 (.agg (pcP x)) ?_ ⟨PX.out, X.out⟩ ?_
          · (intro w1 hS; obtain ⟨hS0, hS1⟩ := hS; exact exec_load 51 (.tmp 9) rfl _ rfl _ (run_blk_load (P := Try.prog) 51 (bp) _ hS0 Try.underlying51 rfl IPX.out))
          simp only [Act.put, tS1, tS2, tS3]
          refine tkA 1 (?_) ?_ ⟨PX.out, X.out⟩ ?_
          rotate_left
          · (intro w1 hS; go_simp; try with_reducible rfl)
          simp only [Act.put, tS1, tS2, tS3]
          refine tkA 2 (.agg s.ce) ?_ ⟨PX.out, X.out⟩ ?_
          · (intro w1 hS; obtain ⟨hS0, hS1⟩ := hS; exact exec_load 46 (.tmp 35) rfl _ rfl _ (by have h := run_part_load (P := Try.prog) 46 37 s.ce.toList _ hS1 SP.out Try.underlying46 rfl CI2.out; rwa [Array.toArray_toList] at h))
          simp only [Act.put, tS1, tS2, tS3]
          refine tkO 3 (fun KK hK => ?_)
          rw [if_pos (by rfl)]
          refine wp_blk_store 51 (.tmp 6) (.tmp 34) rfl (pcP x) rfl rfl RP.out PY.out IPX.out PA.out ?_
          intro Y5h1 hA hF hB
          replace K := Lib.hid (K.out.trans (hB _ (by omega)))
          replace HT := Lib.hid (HT.out.belowB (hB (w.heap.size) (by omega)) (by omega))
          replace BK := Lib.hid (show Blk _ _ _ _ from (hF _ (by omega)).trans BK.out)
          replace BF := Lib.hid (show Blk _ _ _ _ from (hF _ (by omega)).trans BF.out)
          replace RC := Lib.hid (show Blk _ _ _ _ from (hF _ (by omega)).trans RC.out)
          replace RB := Lib.hid (show Blk _ _ _ _ from (hF _ (by omega)).trans RB.out)
          replace PX := Lib.hid (show Blk _ _ _ _ from (hF _ (by omega)).trans PX.out)
          replace X := Lib.hid (show Blk _ _ _ _ from (hF _ (by omega)).trans X.out)
          replace KF := Lib.hid (KF.out.trans (keepsF_store RP.out hF (hB 0 (Nat.zero_le _)).size))
          replace RP := Lib.hid hA
          clear hA hF hB
          refine hK.out _ _ ⟨PX.out, X.out⟩ (fun _ => ?_)
          clear hK KK
          try simp only [Act.put]
          refine tkO 4 (fun KK hK => ?_)
          rw [if_pos (by rfl)]
          refine wp_blk_store 46 (.tmp 7) (.tmp 36) rfl s.ce rfl rfl RC.out CY.out CI.out CA.out ?_
          intro Y5h2 hA hF hB
          replace K := Lib.hid (K.out.trans (hB _ (by omega)))
          replace HT := Lib.hid (HT.out.belowB (hB (w.heap.size) (by omega)) (by omega))
          replace BK := Lib.hid (show Blk _ _ _ _ from (hF _ (by omega)).trans BK.out)
          replace BF := Lib.hid (show Blk _ _ _ _ from (hF _ (by omega)).trans BF.out)
          replace RP := Lib.hid (show Blk _ _ _ _ from (hF _ (by omega)).trans RP.out)
          replace RB := Lib.hid (show Blk _ _ _ _ from (hF _ (by omega)).trans RB.out)
          replace PX := Lib.hid (show Blk _ _ _ _ from (hF _ (by omega)).trans PX.out)
          replace X := Lib.hid (show Blk _ _ _ _ from (hF _ (by omega)).trans X.out)
          replace KF := Lib.hid (KF.out.trans (keepsF_store RC.out hF (hB 0 (Nat.zero_le _)).size))
          replace RC := Lib.hid hA
          clear hA hF hB
          refine hK.out _ _ ⟨PX.out, X.out⟩ (fun _ => ?_)
          clear hK KK
          try simp only [Act.put]
          refine tkO 5 (fun KK hK => ?_)
          have k1 : Y5h2.cell? ⟨w.heap.size + 1 + 1 + 1 + 1 + 1, 0, none⟩ = some (.bool false) := RB.out.cell 0
          have k2 := RB.out.frozen 0
          go_simp
          replace K := Lib.hid (K.out.setCell (p := ⟨w.heap.size + 1 + 1 + 1 + 1 + 1, 0, none⟩) (by show _ ≤ w.heap.size + 1 + 1 + 1 + 1 + 1; omega) (.bool true))
          replace HT := Lib.hid (HT.out.belowB (((Below.refl (w.heap.size) Y5h2).setCell (p := ⟨w.heap.size + 1 + 1 + 1 + 1 + 1, 0, none⟩) (by show _ ≤ w.heap.size + 1 + 1 + 1 + 1 + 1; omega) (.bool true))) (by omega))
          replace BK := Lib.hid (BK.out.far (p := ⟨w.heap.size + 1 + 1 + 1 + 1 + 1, 0, none⟩) (by show _ ≠ w.heap.size + 1 + 1 + 1 + 1 + 1; omega) (.bool true))
          replace BF := Lib.hid (BF.out.far (p := ⟨w.heap.size + 1 + 1 + 1 + 1 + 1, 0, none⟩) (by show _ ≠ w.heap.size + 1 + 1 + 1 + 1 + 1; omega) (.bool true))
          replace RP := Lib.hid (RP.out.far (p := ⟨w.heap.size + 1 + 1 + 1 + 1 + 1, 0, none⟩) (by show _ ≠ w.heap.size + 1 + 1 + 1 + 1 + 1; omega) (.bool true))
          replace RC := Lib.hid (RC.out.far (p := ⟨w.heap.size + 1 + 1 + 1 + 1 + 1, 0, none⟩) (by show _ ≠ w.heap.size + 1 + 1 + 1 + 1 + 1; omega) (.bool true))
          replace PX := Lib.hid (PX.out.far (p := ⟨w.heap.size + 1 + 1 + 1 + 1 + 1, 0, none⟩) (by show _ ≠ w.heap.size + 1 + 1 + 1 + 1 + 1; omega) (.bool true))
          replace X := Lib.hid (X.out.far (p := ⟨w.heap.size + 1 + 1 + 1 + 1 + 1, 0, none⟩) (by show _ ≠ w.heap.size + 1 + 1 + 1 + 1 + 1; omega) (.bool true))
          replace KF := Lib.hid (KF.out.trans ((KeepsOthers.setCell Y5h2 ⟨w.heap.size + 1 + 1 + 1 + 1 + 1, 0, none⟩ (.bool true)).from _))
          replace RB := Lib.hid (show Blk _ _ 4 #[.bool true] from RB.out.set_ 0 (.bool true))
          clear k1 k2
          generalize Y5h2.setCell ⟨w.heap.size + 1 + 1 + 1 + 1 + 1, 0, none⟩ (.bool true) = Y5h3 at *
          refine hK.out _ _ ⟨PX.out, X.out⟩ (fun _ => ?_)
          clear hK KK
          try simp only [Act.put]
          refine wpAnyH_done (by kernel_rfl) ?_ _
          gi_wp2
          exact ⟨KF.out, rfl, (x, s), HX.out, RP.out, RC.out, RB.out, K.out⟩
      · skip
        have hz84 := zero84
        go_simp
        have pb := Blk.new Y3h0 84 zSe
        have hy := (Below.refl Y3h0.heap.size Y3h0).alloc (Nat.le_refl _) (.cells zSe 84)
        obtain ⟨gX, hgX⟩ : ∃ g, g = Y3h0.heap.size := ⟨_, rfl⟩
        have hg0X : W'.heap.size ≤ gX := by rw [hgX]; exact KB.out.size
        replace K := Lib.hid (K.out.trans (hy.mono K.out.size))
        replace HT := Lib.hid (HT.out.below hy)
        replace TB := Lib.hid (TB.out.below hy TB.out.lt)
        replace FB := Lib.hid (FB.out.below hy FB.out.lt)
        replace FD := Lib.hid (FD.out.below hy FD.out.lt)
        replace FV := Lib.hid (FV.out.below hy FV.out.lt)
        replace BT := Lib.hid (BT.out.below hy BT.out.lt)
        replace BK := Lib.hid (BK.out.below hy BK.out.lt)
        replace BF := Lib.hid (BF.out.below hy BF.out.lt)
        replace RP := Lib.hid (RP.out.below hy RP.out.lt)
        replace RC := Lib.hid (RC.out.below hy RC.out.lt)
        replace RB := Lib.hid (RB.out.below hy RB.out.lt)
        replace PX := Lib.hid (PX.out.below hy PX.out.lt)
        replace HB := Lib.hid (HB.out.trans (hy.mono HB.out.size))
        replace KB := Lib.hid (KB.out.trans (hy.mono KB.out.size))
        rw [← hgX] at pb ⊢
        have X := Lib.hid pb
        clear pb hy hgX
        generalize Y3h0.alloc (.cells zSe 84) = Y3h1 at *
        refine hK.out _ _ ⟨BT.out, PX.out, TB.out⟩ (fun _ => ?_)
        clear hK KK
        try simp only [Act.put, tS1, tS2, tS3]
        clear hz84
        refine tkO 5 (fun KK hK => ?_)
        go_simp
        refine (CGx.out Y3h1 HT.out.G).mono ?_
        rintro e Y3h2 ⟨rfl, hy⟩
        replace K := Lib.hid (K.out.trans (hy.mono K.out.size))
        replace HT := Lib.hid (HT.out.below hy)
        replace TB := Lib.hid (TB.out.below hy TB.out.lt)
        replace FB := Lib.hid (FB.out.below hy FB.out.lt)
        replace FD := Lib.hid (FD.out.below hy FD.out.lt)
        replace FV := Lib.hid (FV.out.below hy FV.out.lt)
        replace BT := Lib.hid (BT.out.below hy BT.out.lt)
        replace BK := Lib.hid (BK.out.below hy BK.out.lt)
        replace BF := Lib.hid (BF.out.below hy BF.out.lt)
        replace RP := Lib.hid (RP.out.below hy RP.out.lt)
        replace RC := Lib.hid (RC.out.below hy RC.out.lt)
        replace RB := Lib.hid (RB.out.below hy RB.out.lt)
        replace PX := Lib.hid (PX.out.below hy PX.out.lt)
        replace HB := Lib.hid (HB.out.trans (hy.mono HB.out.size))
        replace KB := Lib.hid (KB.out.trans (hy.mono KB.out.size))
        replace X := Lib.hid (X.out.below hy X.out.lt)
        clear hy
        refine hK.out _ _ ⟨BT.out, PX.out, TB.out⟩ (fun _ => ?_)
        clear hK KK
        try simp only [Act.put, tS1, tS2, tS3]
        refine tkA 6 (?_) ?_ ⟨BT.out, PX.out, TB.out⟩ ?_
        rotate_left
        · (intro w1 hS; go_simp; try with_reducible rfl)
        simp only [Act.put, tS1, tS2, tS3]
        refine tkA 7 (?_) ?_ ⟨BT.out, PX.out, TB.out⟩ ?_
        rotate_left
        · (intro w1 hS; go_simp; try with_reducible rfl)
        simp only [Act.put, tS1, tS2, tS3]
        refine tkA 8 (?_) ?_ ⟨BT.out, PX.out, TB.out⟩ ?_
        rotate_left
        · (intro w1 hS; go_simp; try with_reducible rfl)
        simp only [Act.put, tS1, tS2, tS3]
        refine tkO 10 (fun KK hK => ?_)
        rw [if_pos (by rfl)]
        refine wp_blk_store 84 (.tmp 10) (.tmp 26) rfl s.cs rfl rfl X.out SY.out SI.out SA.out ?_
        intro Y3h3 hA hF hB
        replace K := Lib.hid (K.out.trans (hB _ (by omega)))
        replace HT := Lib.hid (HT.out.belowB (hB (w.heap.size) (by omega)) (by omega))
        replace TB := Lib.hid (show Blk _ _ _ _ from (hF _ (by omega)).trans TB.out)
        replace FB := Lib.hid (show Blk _ _ _ _ from (hF _ (by omega)).trans FB.out)
        replace FD := Lib.hid (show Blk _ _ _ _ from (hF _ (by omega)).trans FD.out)
        replace FV := Lib.hid (show Blk _ _ _ _ from (hF _ (by omega)).trans FV.out)
        replace BT := Lib.hid (show Blk _ _ _ _ from (hF _ (by omega)).trans BT.out)
        replace BK := Lib.hid (show Blk _ _ _ _ from (hF _ (by omega)).trans BK.out)
        replace BF := Lib.hid (show Blk _ _ _ _ from (hF _ (by omega)).trans BF.out)
        replace RP := Lib.hid (show Blk _ _ _ _ from (hF _ (by omega)).trans RP.out)
        replace RC := Lib.hid (show Blk _ _ _ _ from (hF _ (by omega)).trans RC.out)
        replace RB := Lib.hid (show Blk _ _ _ _ from (hF _ (by omega)).trans RB.out)
        replace PX := Lib.hid (show Blk _ _ _ _ from (hF _ (by omega)).trans PX.out)
        replace HB := Lib.hid (HB.out.trans (hB _ (by omega)))
        replace KB := Lib.hid (KB.out.trans (hB _ (by omega)))
        replace X := Lib.hid hA
        clear hA hF hB
        refine hK.out _ _ ⟨BT.out, PX.out, TB.out⟩ (fun _ => ?_)
        clear hK KK
        try simp only [Act.put]
        refine tkA 11 (?_) ?_ ⟨BT.out, PX.out, TB.out⟩ ?_
        rotate_left
        · (intro w1 hS; go_simp; try with_reducible rfl)
        simp only [Act.put, tS1, tS2, tS3]
        refine wpAnyH_done (by kernel_rfl) ?_ _
        have c5 := BF.out.cell 0
        have L31 : (loadVar 84 ⟨gX, 0, none⟩).run Try.prog Y3h3 = .ok (.agg s.cs) Y3h3 := run_blk_load (P := Try.prog) 84 gX _ X.out Try.underlying84 rfl SI.out
        replace L31 := Lib.hid L31
        gi_wp2_with ((with_reducible refine wpListIn_load_want (op := ⟨some 31, .load 84 (.tmp 10), _, _, _, _⟩) ?wg1 84 (.tmp 10) ?wo1 ⟨gX, 0, none⟩ ?wx1 (.agg s.cs) L31.out ?_); (case wg1 => rfl); (case wo1 => rfl); (case wx1 => rfl))
        refine ⟨trivial, ?_⟩
        refine (CallsIn.inRound l (callsIn_wide.2 (CQs.out Y3h3 FD.out FV.out))).mono ?_
        rintro e Vc ⟨rfl, hy⟩
        clear L31 c5
        replace K := Lib.hid (K.out.trans (hy.mono K.out.size))
        replace HT := Lib.hid (HT.out.below hy)
        replace TB := Lib.hid (TB.out.below hy TB.out.lt)
        replace FB := Lib.hid (FB.out.below hy FB.out.lt)
        replace FD := Lib.hid (FD.out.below hy FD.out.lt)
        replace FV := Lib.hid (FV.out.below hy FV.out.lt)
        replace BT := Lib.hid (BT.out.below hy BT.out.lt)
        replace BK := Lib.hid (BK.out.below hy BK.out.lt)
        replace BF := Lib.hid (BF.out.below hy BF.out.lt)
        replace RP := Lib.hid (RP.out.below hy RP.out.lt)
        replace RC := Lib.hid (RC.out.below hy RC.out.lt)
        replace RB := Lib.hid (RB.out.below hy RB.out.lt)
        replace PX := Lib.hid (PX.out.below hy PX.out.lt)
        replace HB := Lib.hid (HB.out.trans (hy.mono HB.out.size))
        replace KB := Lib.hid (KB.out.trans (hy.mono KB.out.size))
        replace X := Lib.hid (X.out.below hy X.out.lt)
        clear hy
        cases hq : qf s with
        | false =>
          gi_wp2
          have hr := HB.out
          exact ⟨keepsF_below KB.out, Kept.below KB.out (fun k hk => by rcases hk with rfl | rfl | rfl <;> omega), HB.out, HX0.out hq⟩
        | true =>
          have HX := Lib.hid (HX1.out hq)
          clear hq HX0 HX1 CQs CGx
          have KF := Lib.hid (keepsF_below (b := Y1h1.heap.size) KB.out)
          clear KB HB BT TB FB FD FV
          gi_wp2_with fail
          have IX0 := IPX.out
          have PY : Hid ((pcP x).size = (#[Value.int .i64 0, .int .i64 0] : Array Value).size) := rfl
          have PA : Hid ((pcP x).all (·.oneCell') = true) := pcP_all x
          have CY : Hid (s.ce.size = zCe.size) := rfl
          have CI : Hid ((Try.prog.info? 46).map (·.size) = some s.ce.size) := i46c
          have CA : Hid (s.ce.all (·.oneCell') = true) := ceC_all _ _ _ _
          have CI2 : Hid ((Try.prog.info? 46).map (·.size) = some s.ce.toList.length) := i46c
          refine wpIn_region_held_round (S := (fun w' : World => Blk w' (bp) 51 (pcP x) ∧ Blk w' (gX) 84 s.cs)) (by kernel_rfl) (by kernel_rfl) (fun ⟨_, _, h⟩ => h) ?_
          have hy : Below Vc.heap.size Vc Vc.drew := (Below.refl _ _).drew
          replace K := Lib.hid (K.out.trans (hy.mono K.out.size))
          replace HT := Lib.hid (HT.out.below hy)
          replace BK := Lib.hid (BK.out.below hy BK.out.lt)
          replace BF := Lib.hid (BF.out.below hy BF.out.lt)
          replace RP := Lib.hid (RP.out.below hy RP.out.lt)
          replace RC := Lib.hid (RC.out.below hy RC.out.lt)
          replace RB := Lib.hid (RB.out.below hy RB.out.lt)
          replace PX := Lib.hid (PX.out.below hy PX.out.lt)
          replace X := Lib.hid (X.out.below hy X.out.lt)
          replace KF := Lib.hid (KF.out.trans (keepsF_below hy))
          clear hy
          generalize Vc.drew = Y5h0 at *
          refine tkA 0 (.agg (pcP x)) ?_ ⟨PX.out, X.out⟩ ?_
          · (intro w1 hS; obtain ⟨hS0, hS1⟩ := hS; exact exec_load 51 (.tmp 9) rfl _ rfl _ (run_blk_load (P := Try.prog) 51 (bp) _ hS0 Try.underlying51 rfl IPX.out))
          simp only [Act.put, tS1, tS2, tS3]
          refine tkA 1 (?_) ?_ ⟨PX.out, X.out⟩ ?_
          rotate_left
          · (intro w1 hS; go_simp; try with_reducible rfl)
          simp only [Act.put, tS1, tS2, tS3]
          refine tkA 2 (.agg s.ce) ?_ ⟨PX.out, X.out⟩ ?_
          · (intro w1 hS; obtain ⟨hS0, hS1⟩ := hS; exact exec_load 46 (.tmp 35) rfl _ rfl _ (by have h := run_part_load (P := Try.prog) 46 37 s.ce.toList _ hS1 SP.out Try.underlying46 rfl CI2.out; rwa [Array.toArray_toList] at h))
          simp only [Act.put, tS1, tS2, tS3]
          refine tkO 3 (fun KK hK => ?_)
          rw [if_pos (by rfl)]
          refine wp_blk_store 51 (.tmp 6) (.tmp 34) rfl (pcP x) rfl rfl RP.out PY.out IPX.out PA.out ?_
          intro Y5h1 hA hF hB
          replace K := Lib.hid (K.out.trans (hB _ (by omega)))
          replace HT := Lib.hid (HT.out.belowB (hB (w.heap.size) (by omega)) (by omega))
          replace BK := Lib.hid (show Blk _ _ _ _ from (hF _ (by omega)).trans BK.out)
          replace BF := Lib.hid (show Blk _ _ _ _ from (hF _ (by omega)).trans BF.out)
          replace RC := Lib.hid (show Blk _ _ _ _ from (hF _ (by omega)).trans RC.out)
          replace RB := Lib.hid (show Blk _ _ _ _ from (hF _ (by omega)).trans RB.out)
          replace PX := Lib.hid (show Blk _ _ _ _ from (hF _ (by omega)).trans PX.out)
          replace X := Lib.hid (show Blk _ _ _ _ from (hF _ (by omega)).trans X.out)
          replace KF := Lib.hid (KF.out.trans (keepsF_store RP.out hF (hB 0 (Nat.zero_le _)).size))
          replace RP := Lib.hid hA
          clear hA hF hB
          refine hK.out _ _ ⟨PX.out, X.out⟩ (fun _ => ?_)
          clear hK KK
          try simp only [Act.put]
          refine tkO 4 (fun KK hK => ?_)
          rw [if_pos (by rfl)]
          refine wp_blk_store 46 (.tmp 7) (.tmp 36) rfl s.ce rfl rfl RC.out CY.out CI.out CA.out ?_
          intro Y5h2 hA hF hB
          replace K := Lib.hid (K.out.trans (hB _ (by omega)))
          replace HT := Lib.hid (HT.out.belowB (hB (w.heap.size) (by omega)) (by omega))
          replace BK := Lib.hid (show Blk _ _ _ _ from (hF _ (by omega)).trans BK.out)
          replace BF := Lib.hid (show Blk _ _ _ _ from (hF _ (by omega)).trans BF.out)
          replace RP := Lib.hid (show Blk _ _ _ _ from (hF _ (by omega)).trans RP.out)
          replace RB := Lib.hid (show Blk _ _ _ _ from (hF _ (by omega)).trans RB.out)
          replace PX := Lib.hid (show Blk _ _ _ _ from (hF _ (by omega)).trans PX.out)
          replace X := Lib.hid (show Blk _ _ _ _ from (hF _ (by omega)).trans X.out)
          replace KF := Lib.hid (KF.out.trans (keepsF_store RC.out hF (hB 0 (Nat.zero_le _)).size))
          replace RC := Lib.hid hA
          clear hA hF hB
          refine hK.out _ _ ⟨PX.out, X.out⟩ (fun _ => ?_)
          clear hK KK
          try simp only [Act.put]
          refine tkO 5 (fun KK hK => ?_)
          have k1 : Y5h2.cell? ⟨w.heap.size + 1 + 1 + 1 + 1 + 1, 0, none⟩ = some (.bool false) := RB.out.cell 0
          have k2 := RB.out.frozen 0
          go_simp
          replace K := Lib.hid (K.out.setCell (p := ⟨w.heap.size + 1 + 1 + 1 + 1 + 1, 0, none⟩) (by show _ ≤ w.heap.size + 1 + 1 + 1 + 1 + 1; omega) (.bool true))
          replace HT := Lib.hid (HT.out.belowB (((Below.refl (w.heap.size) Y5h2).setCell (p := ⟨w.heap.size + 1 + 1 + 1 + 1 + 1, 0, none⟩) (by show _ ≤ w.heap.size + 1 + 1 + 1 + 1 + 1; omega) (.bool true))) (by omega))
          replace BK := Lib.hid (BK.out.far (p := ⟨w.heap.size + 1 + 1 + 1 + 1 + 1, 0, none⟩) (by show _ ≠ w.heap.size + 1 + 1 + 1 + 1 + 1; omega) (.bool true))
          replace BF := Lib.hid (BF.out.far (p := ⟨w.heap.size + 1 + 1 + 1 + 1 + 1, 0, none⟩) (by show _ ≠ w.heap.size + 1 + 1 + 1 + 1 + 1; omega) (.bool true))
          replace RP := Lib.hid (RP.out.far (p := ⟨w.heap.size + 1 + 1 + 1 + 1 + 1, 0, none⟩) (by show _ ≠ w.heap.size + 1 + 1 + 1 + 1 + 1; omega) (.bool true))
          replace RC := Lib.hid (RC.out.far (p := ⟨w.heap.size + 1 + 1 + 1 + 1 + 1, 0, none⟩) (by show _ ≠ w.heap.size + 1 + 1 + 1 + 1 + 1; omega) (.bool true))
          replace PX := Lib.hid (PX.out.far (p := ⟨w.heap.size + 1 + 1 + 1 + 1 + 1, 0, none⟩) (by show _ ≠ w.heap.size + 1 + 1 + 1 + 1 + 1; omega) (.bool true))
          replace X := Lib.hid (X.out.far (p := ⟨w.heap.size + 1 + 1 + 1 + 1 + 1, 0, none⟩) (by show _ ≠ w.heap.size + 1 + 1 + 1 + 1 + 1; omega) (.bool true))
          replace KF := Lib.hid (KF.out.trans ((KeepsOthers.setCell Y5h2 ⟨w.heap.size + 1 + 1 + 1 + 1 + 1, 0, none⟩ (.bool true)).from _))
          replace RB := Lib.hid (show Blk _ _ 4 #[.bool true] from RB.out.set_ 0 (.bool true))
          clear k1 k2
          generalize Y5h2.setCell ⟨w.heap.size + 1 + 1 + 1 + 1 + 1, 0, none⟩ (.bool true) = Y5h3 at *
          refine hK.out _ _ ⟨PX.out, X.out⟩ (fun _ => ?_)
          clear hK KK
          try simp only [Act.put]
          refine wpAnyH_done (by kernel_rfl) ?_ _
          gi_wp2
          exact ⟨KF.out, rfl, (x, s), HX.out, RP.out, RC.out, RB.out, K.out⟩
  case done =>
    rintro D ys Wn hD hys ⟨hB, hnone⟩ hK
    subst hys
    subst hact
    have hRB := RB.out.lt
    have HNN := Lib.hid hnone
    have DK := Lib.hid (show Dfr Wn D from hK)
    have hKs := K.out.size
    have HBZ := Lib.hid (belowK_b (n₀ := Y1h1.heap.size) (w := Y1h1) (Nat.le_refl _))
    clear hnone hK CP CPL CG CQ hql HST PF PK
    replace K := Lib.hid (K.out.trans (hB.mono K.out.size))
    replace RP := Lib.hid (RP.out.below hB RP.out.lt)
    replace RC := Lib.hid (RC.out.below hB RC.out.lt)
    replace RB := Lib.hid (RB.out.below hB RB.out.lt)
    clear hB HT TB FB BT BK BF FD FV
    have hKn := K.out.size
    have ZP : Hid ((#[Value.int .i64 0, .int .i64 0] : Array Value).all (·.oneCell') = true) := pcP_all (0, 0)
    have IP : Hid ((Try.prog.info? 51).map (·.size) = some (#[Value.int .i64 0, .int .i64 0] : Array Value).size) := i51c
    have ZC : Hid (zCe.all (·.oneCell') = true) := ceC_all _ _ _ _
    have IC : Hid ((Try.prog.info? 46).map (·.size) = some zCe.size) := i46c
    go_wp2_with (first | ((with_reducible refine wpList_built3 (op := ⟨some 37, .build 51 #[], _, _, _, _⟩) ?bg1 51 #[] ?bo1 #[] ?bv1 #[.int .i64 0, .int .i64 0] ?bf1 ?_); (case bg1 => rfl); (case bo1 => rfl); (case bv1 => kernel_rfl); (case bf1 => exact bl51)) | ((with_reducible refine wpList_built3 (op := ⟨some 38, .build 46 #[], _, _, _, _⟩) ?bg2 46 #[] ?bo2 #[] ?bv2 zCe ?bf2 ?_); (case bg2 => rfl); (case bo2 => rfl); (case bv2 => kernel_rfl); (case bf2 => exact bl46)) | ((with_reducible refine wpList_blk_store (op := ⟨none, .store 51 (.tmp 6) (.tmp 37), _, _, _, _⟩) ?sg3 51 (.tmp 6) (.tmp 37) ?so3 (w.heap.size + 1 + 1 + 1) #[.int .i64 0, .int .i64 0] ?sx3 ?sy3 RP.out zz51.out IP.out ZP.out ?_); (case sg3 => rfl); (case so3 => rfl); (case sx3 => rfl); (case sy3 => rfl)))
    intro V201 hA hF hB
    replace K := Lib.hid (K.out.trans (hB _ (by omega)))
    replace RC := Lib.hid (show Blk _ _ _ _ from (hF _ (by omega)).trans RC.out)
    replace RB := Lib.hid (show Blk _ _ _ _ from (hF _ (by omega)).trans RB.out)
    replace DK := Lib.hid (show Dfr _ _ from (hF _ (by omega)).trans DK.out)
    replace RP := Lib.hid hA
    clear hA hF hB
    go_wp2_with (((with_reducible refine wpList_blk_store (op := ⟨none, .store 46 (.tmp 7) (.tmp 38), _, _, _, _⟩) ?sg4 46 (.tmp 7) (.tmp 38) ?so4 (w.heap.size + 1 + 1 + 1 + 1) zCe ?sx4 ?sy4 RC.out zz46.out IC.out ZC.out ?_); (case sg4 => rfl); (case so4 => rfl); (case sx4 => rfl); (case sy4 => rfl)))
    intro V202 hA hF hB
    replace K := Lib.hid (K.out.trans (hB _ (by omega)))
    replace RP := Lib.hid (show Blk _ _ _ _ from (hF _ (by omega)).trans RP.out)
    replace RB := Lib.hid (show Blk _ _ _ _ from (hF _ (by omega)).trans RB.out)
    replace DK := Lib.hid (show Dfr _ _ from (hF _ (by omega)).trans DK.out)
    replace RC := Lib.hid hA
    clear hA hF hB
    have k1 : V202.cell? ⟨w.heap.size + 1 + 1 + 1 + 1 + 1, 0, none⟩ = some (.bool false) := RB.out.cell 0
    have k2 := RB.out.frozen 0
    have R2 := Lib.hid (show Blk _ _ 4 #[.bool false] from RB.out.set_ 0 (.bool false))
    have P2 := Lib.hid (RP.out.far (p := ⟨w.heap.size + 1 + 1 + 1 + 1 + 1, 0, none⟩) (by show _ ≠ w.heap.size + 1 + 1 + 1 + 1 + 1; omega) (.bool false))
    have C2 := Lib.hid (RC.out.far (p := ⟨w.heap.size + 1 + 1 + 1 + 1 + 1, 0, none⟩) (by show _ ≠ w.heap.size + 1 + 1 + 1 + 1 + 1; omega) (.bool false))
    have K2 := Lib.hid (K.out.setCell (p := ⟨w.heap.size + 1 + 1 + 1 + 1 + 1, 0, none⟩) (by show w.heap.size ≤ w.heap.size + 1 + 1 + 1 + 1 + 1; omega) (.bool false))
    have D2 : Hid (Dfr (V202.setCell ⟨w.heap.size + 1 + 1 + 1 + 1 + 1, 0, none⟩ (.bool false)) D) := (Below.heap_setCell _ _ _ D (by show D ≠ w.heap.size + 1 + 1 + 1 + 1 + 1; omega)).trans DK.out
    clear DK RB K RP RC
    have DK := D2
    have RB := R2
    have K := K2
    have RP := P2
    have RC := C2
    clear D2 R2 K2 P2 C2
    go_wp2
    refine ⟨by simp, .inl ⟨_, _, rfl, run_takeDeferred DK.out, ?_⟩⟩
    have hbz := HBZ.out _ D _ (.deferred none) hD DK.out rfl rfl
    have RPz := RP.out.below hbz (by omega)
    have RCz := RC.out.below hbz (by omega)
    have RBz := RB.out.below hbz (by omega)
    have Kz := K.out.trans (hbz.mono hKs)
    exact ⟨_, results_cell3 6 7 8 51 46 4 _ _ _ _ _ _ rfl rfl rfl rfl (run_blk_load (P := Try.prog) 51 _ _ RPz Try.underlying51 rfl IP.out) (run_blk_load (P := Try.prog) 46 _ _ RCz Try.underlying46 rfl IC.out) (load4 RBz), by rw [HNN.out]; rfl, Kz⟩
  case stop =>
    rintro D cd l Wn hD ⟨kk, hkk, hl⟩ ⟨rfl, o, ho, hP, hC, hBb, hKk⟩ hK
    subst hact
    subst hl
    have HNN := Lib.hid (fst1_take f qf L kk o ho)
    have hRB := RB.out.lt
    have hKs := K.out.size
    have DK := Lib.hid (show Dfr Wn D from hK)
    have HBZ := Lib.hid (belowK_b (n₀ := Y1h1.heap.size) (w := Y1h1) (Nat.le_refl _))
    have K := Lib.hid hKk
    have RP := Lib.hid hP
    have RC := Lib.hid hC
    have RB := Lib.hid hBb
    clear ho hK CP CPL CG CQ hql HST PF PK hKk hP hC hBb HT TB FB BT BK BF FD FV
    gi_wp2
    refine ⟨by simp, .inl ⟨_, _, rfl, run_takeDeferred DK.out, ?_⟩⟩
    have hbz := HBZ.out Wn D _ (.deferred none) hD DK.out rfl rfl
    have RPz := RP.out.below hbz (by omega)
    have RCz := RC.out.below hbz (by omega)
    have RBz := RB.out.below hbz (by omega)
    have Kz := K.out.trans (hbz.mono hKs)
    exact ⟨_, results_cell3 6 7 8 51 46 4 _ _ _ _ _ _ rfl rfl rfl rfl (run_blk_load (P := Try.prog) 51 _ _ RPz Try.underlying51 rfl i51c) (run_blk_load (P := Try.prog) 46 _ _ RCz Try.underlying46 rfl i46c) (load4 RBz), by rw [HNN.out]; rfl, Kz⟩
set_option maxRecDepth 100000 in
set_option maxHeartbeats 4000000 in
theorem firstF_any (tn fn B : Nat) (cf : Cf) (c : Nat → Option Se) (hc : cf.Fit) (hok : okC cf = true) (k : Fl) (hk : k.Fit) (k2 : Fl) (hk2 : k2.Fit) (pk : Nat) (w : World) (h : TS tn fn B cf c w) (hb : Blk w pk 42 k2.cs) :
    Calls Try.prog 33 #[.pointer (some ⟨tn, 0, none⟩), .agg k.cs, .func (.func 44) #[] #[.pointer (some ⟨pk, 0, none⟩)]] w fun e w' => e = .returned (.tuple #[.agg (rP (fst1 (lkN cf.st.toNat cf.sz.toNat c) (fun s => decide (s.k = k2)) (plL cf k))), .agg (rC (fst1 (lkN cf.st.toNat cf.sz.toNat c) (fun s => decide (s.k = k2)) (plL cf k))), .bool (fst1 (lkN cf.st.toNat cf.sz.toNat c) (fun s => decide (s.k = k2)) (plL cf k)).isSome]) ∧ Below w.heap.size w w' := by
  have hl4 := plL_le cf k hok
  have hi42 := fl_ik k hk
  have CP := Lib.hid (fun s W (h : Blk W fn 110 (famC cf)) => place_any cf hc hok k hk fn s W h)
  have CG : Hid (∀ (x : Pl) (W : World), GdT B cf.st.toNat cf.sz.toNat c W → Calls Try.prog 36 #[.pointer (some ⟨B + 1, 0, none⟩), .agg (pcP x)] W fun e w' => e = .returned (.tuple #[.agg (oC (lkN cf.st.toNat cf.sz.toNat c x)), .bool (lkN cf.st.toNat cf.sz.toNat c x).isSome]) ∧ Below W.heap.size W w') := fun x W h => getT_any B cf.st.toNat cf.sz.toNat c (x.1 : Int) (x.2 : Int) W h
  have CQ := Lib.hid (fun s W (h1 : Blk W pk 42 k2.cs) => findF_any s k2 hk2 pk W h1)
  have CPL := Lib.hid (fun W => places_any (some ⟨fn, 0, none⟩) k.cs W)
  have hql := eql_fnP
  have KI2 := fl_ik k2 hk2
  obtain ⟨kc2, hkc2⟩ : ∃ x, x = k2.cs := ⟨_, rfl⟩
  rw [← hkc2] at hb CQ KI2
  clear hkc2
  obtain ⟨qf, hqf⟩ : ∃ q : Se → Bool, q = (fun s => decide (s.k = k2)) := ⟨_, rfl⟩
  have hqf2 : ∀ s : Se, decide (s.k = k2) = qf s := fun s => by rw [hqf]
  simp only [hqf2] at CQ
  rw [← hqf]
  clear hqf hqf2
  obtain ⟨f, hf⟩ : ∃ f, f = lkN cf.st.toNat cf.sz.toNat c := ⟨_, rfl⟩
  rw [← hf] at CG ⊢
  clear hf
  obtain ⟨L, hL⟩ : ∃ L, L = plL cf k := ⟨_, rfl⟩
  rw [← hL] at hl4 CP ⊢
  clear hL
  obtain ⟨T0', T1', -⟩ := tbC_get fn B cf.ev
  have T0 := Lib.hid T0'
  have T1 := Lib.hid T1'
  have TB := Lib.hid h.T
  have HT := Lib.hid h
  have htw := h.lt
  have hft : fn < tn := by have := h.hF; have := h.hT; omega
  have FK := Lib.hid (show Blk w pk 42 kc2 from hb)
  obtain ⟨kc, hkc⟩ : ∃ x, x = k.cs := ⟨_, rfl⟩
  rw [← hkc] at CP CPL hi42 ⊢
  have IK := Lib.hid hi42
  obtain ⟨tc, htc⟩ : ∃ x, x = tbC fn B cf.ev := ⟨_, rfl⟩
  rw [← htc] at T0 T1 TB
  have FB := Lib.hid h.F
  clear T0' T1' h hkc hk htc hb
  obtain ⟨fc, hfc⟩ : ∃ x, x = famC cf := ⟨_, rfl⟩
  rw [← hfc] at FB CP
  clear hfc
  have K := Lib.hid (Below.refl w.heap.size w)
  have hz46 := zero46
  refine (callsIn_wide (n := 3)).1 ?_
  refine callsIn_of_wp_marks Try.func33 rfl trivial ?_ rfl
  refine wpIn_wide.2 ?_
  simp only [Try.ntmps33, List.size_toArray, List.length_cons, List.length_nil, Nat.reduceAdd, Nat.reduceSub, Array.replicate_succ, Array.replicate_zero, List.push_toArray, List.append_toArray, List.nil_append, List.cons_append]
  have hal := (Below.refl w.heap.size w).alloc (Nat.le_refl _) (.cells #[.pointer (some ⟨tn, 0, none⟩)] 31)
  replace K := Lib.hid (K.out.trans (hal.mono K.out.size))
  replace HT := Lib.hid (HT.out.below hal)
  replace TB := Lib.hid (TB.out.below hal TB.out.lt)
  replace FB := Lib.hid (FB.out.below hal FB.out.lt)
  replace FK := Lib.hid (FK.out.below hal FK.out.lt)
  have BT := Lib.hid (Blk.new w 31 #[.pointer (some ⟨tn, 0, none⟩)])
  clear hal
  have hal := (Below.refl (w.alloc (.cells #[.pointer (some ⟨tn, 0, none⟩)] 31)).heap.size (w.alloc (.cells #[.pointer (some ⟨tn, 0, none⟩)] 31))).alloc (Nat.le_refl _) (.cells kc 42)
  replace K := Lib.hid (K.out.trans (hal.mono K.out.size))
  replace HT := Lib.hid (HT.out.below hal)
  replace TB := Lib.hid (TB.out.below hal TB.out.lt)
  replace FB := Lib.hid (FB.out.below hal FB.out.lt)
  replace FK := Lib.hid (FK.out.below hal FK.out.lt)
  replace BT := Lib.hid (BT.out.below hal BT.out.lt)
  have BKq := Blk.new (w.alloc (.cells #[.pointer (some ⟨tn, 0, none⟩)] 31)) 42 kc
  simp only [World.size_alloc] at BKq
  have BK := Lib.hid BKq
  clear BKq
  clear hal
  have hal := (Below.refl ((w.alloc (.cells #[.pointer (some ⟨tn, 0, none⟩)] 31)).alloc (.cells kc 42)).heap.size ((w.alloc (.cells #[.pointer (some ⟨tn, 0, none⟩)] 31)).alloc (.cells kc 42))).alloc (Nat.le_refl _) (.cells #[.func (.func 44) #[] #[.pointer (some ⟨pk, 0, none⟩)]] 89)
  replace K := Lib.hid (K.out.trans (hal.mono K.out.size))
  replace HT := Lib.hid (HT.out.below hal)
  replace TB := Lib.hid (TB.out.below hal TB.out.lt)
  replace FB := Lib.hid (FB.out.below hal FB.out.lt)
  replace FK := Lib.hid (FK.out.below hal FK.out.lt)
  replace BT := Lib.hid (BT.out.below hal BT.out.lt)
  replace BK := Lib.hid (BK.out.below hal BK.out.lt)
  have BFq := Blk.new ((w.alloc (.cells #[.pointer (some ⟨tn, 0, none⟩)] 31)).alloc (.cells kc 42)) 89 #[.func (.func 44) #[] #[.pointer (some ⟨pk, 0, none⟩)]]
  simp only [World.size_alloc] at BFq
  have BF := Lib.hid BFq
  clear BFq
  clear hal
  have hal := (Below.refl (((w.alloc (.cells #[.pointer (some ⟨tn, 0, none⟩)] 31)).alloc (.cells kc 42)).alloc (.cells #[.func (.func 44) #[] #[.pointer (some ⟨pk, 0, none⟩)]] 89)).heap.size (((w.alloc (.cells #[.pointer (some ⟨tn, 0, none⟩)] 31)).alloc (.cells kc 42)).alloc (.cells #[.func (.func 44) #[] #[.pointer (some ⟨pk, 0, none⟩)]] 89))).alloc (Nat.le_refl _) (.cells #[.int .i64 0, .int .i64 0] 51)
  replace K := Lib.hid (K.out.trans (hal.mono K.out.size))
  replace HT := Lib.hid (HT.out.below hal)
  replace TB := Lib.hid (TB.out.below hal TB.out.lt)
  replace FB := Lib.hid (FB.out.below hal FB.out.lt)
  replace FK := Lib.hid (FK.out.below hal FK.out.lt)
  replace BT := Lib.hid (BT.out.below hal BT.out.lt)
  replace BK := Lib.hid (BK.out.below hal BK.out.lt)
  replace BF := Lib.hid (BF.out.below hal BF.out.lt)
  have RPq := Blk.new (((w.alloc (.cells #[.pointer (some ⟨tn, 0, none⟩)] 31)).alloc (.cells kc 42)).alloc (.cells #[.func (.func 44) #[] #[.pointer (some ⟨pk, 0, none⟩)]] 89)) 51 #[.int .i64 0, .int .i64 0]
  simp only [World.size_alloc] at RPq
  have RP := Lib.hid RPq
  clear RPq
  clear hal
  have hal := (Below.refl ((((w.alloc (.cells #[.pointer (some ⟨tn, 0, none⟩)] 31)).alloc (.cells kc 42)).alloc (.cells #[.func (.func 44) #[] #[.pointer (some ⟨pk, 0, none⟩)]] 89)).alloc (.cells #[.int .i64 0, .int .i64 0] 51)).heap.size ((((w.alloc (.cells #[.pointer (some ⟨tn, 0, none⟩)] 31)).alloc (.cells kc 42)).alloc (.cells #[.func (.func 44) #[] #[.pointer (some ⟨pk, 0, none⟩)]] 89)).alloc (.cells #[.int .i64 0, .int .i64 0] 51))).alloc (Nat.le_refl _) (.cells zCe 46)
  replace K := Lib.hid (K.out.trans (hal.mono K.out.size))
  replace HT := Lib.hid (HT.out.below hal)
  replace TB := Lib.hid (TB.out.below hal TB.out.lt)
  replace FB := Lib.hid (FB.out.below hal FB.out.lt)
  replace FK := Lib.hid (FK.out.below hal FK.out.lt)
  replace BT := Lib.hid (BT.out.below hal BT.out.lt)
  replace BK := Lib.hid (BK.out.below hal BK.out.lt)
  replace BF := Lib.hid (BF.out.below hal BF.out.lt)
  replace RP := Lib.hid (RP.out.below hal RP.out.lt)
  have RCq := Blk.new ((((w.alloc (.cells #[.pointer (some ⟨tn, 0, none⟩)] 31)).alloc (.cells kc 42)).alloc (.cells #[.func (.func 44) #[] #[.pointer (some ⟨pk, 0, none⟩)]] 89)).alloc (.cells #[.int .i64 0, .int .i64 0] 51)) 46 zCe
  simp only [World.size_alloc] at RCq
  have RC := Lib.hid RCq
  clear RCq
  clear hal
  have hal := (Below.refl (((((w.alloc (.cells #[.pointer (some ⟨tn, 0, none⟩)] 31)).alloc (.cells kc 42)).alloc (.cells #[.func (.func 44) #[] #[.pointer (some ⟨pk, 0, none⟩)]] 89)).alloc (.cells #[.int .i64 0, .int .i64 0] 51)).alloc (.cells zCe 46)).heap.size (((((w.alloc (.cells #[.pointer (some ⟨tn, 0, none⟩)] 31)).alloc (.cells kc 42)).alloc (.cells #[.func (.func 44) #[] #[.pointer (some ⟨pk, 0, none⟩)]] 89)).alloc (.cells #[.int .i64 0, .int .i64 0] 51)).alloc (.cells zCe 46))).alloc (Nat.le_refl _) (.cells #[.bool false] 4)
  replace K := Lib.hid (K.out.trans (hal.mono K.out.size))
  replace HT := Lib.hid (HT.out.below hal)
  replace TB := Lib.hid (TB.out.below hal TB.out.lt)
  replace FB := Lib.hid (FB.out.below hal FB.out.lt)
  replace FK := Lib.hid (FK.out.below hal FK.out.lt)
  replace BT := Lib.hid (BT.out.below hal BT.out.lt)
  replace BK := Lib.hid (BK.out.below hal BK.out.lt)
  replace BF := Lib.hid (BF.out.below hal BF.out.lt)
  replace RP := Lib.hid (RP.out.below hal RP.out.lt)
  replace RC := Lib.hid (RC.out.below hal RC.out.lt)
  have RBq := Blk.new (((((w.alloc (.cells #[.pointer (some ⟨tn, 0, none⟩)] 31)).alloc (.cells kc 42)).alloc (.cells #[.func (.func 44) #[] #[.pointer (some ⟨pk, 0, none⟩)]] 89)).alloc (.cells #[.int .i64 0, .int .i64 0] 51)).alloc (.cells zCe 46)) 4 #[.bool false]
  simp only [World.size_alloc] at RBq
  have RB := Lib.hid RBq
  clear RBq
  clear hal
  go_upto_region 1 with fail
  have hzV1 : Hid (((((((w.alloc (.cells #[.pointer (some ⟨tn, 0, none⟩)] 31)).alloc (.cells kc 42)).alloc (.cells #[.func (.func 44) #[] #[.pointer (some ⟨pk, 0, none⟩)]] 89)).alloc (.cells #[.int .i64 0, .int .i64 0] 51)).alloc (.cells zCe 46)).alloc (.cells #[.bool false] 4)).heap.size = w.heap.size + 1 + 1 + 1 + 1 + 1 + 1) := by show _ = _; simp only [World.size_alloc]
  generalize ((((((w.alloc (.cells #[.pointer (some ⟨tn, 0, none⟩)] 31)).alloc (.cells kc 42)).alloc (.cells #[.func (.func 44) #[] #[.pointer (some ⟨pk, 0, none⟩)]] 89)).alloc (.cells #[.int .i64 0, .int .i64 0] 51)).alloc (.cells zCe 46)).alloc (.cells #[.bool false] 4)) = V1 at *
  clear hz46
  refine wp_noP ?_
  refine wp_region_held (S := (fun w' : World => Blk w' (w.heap.size) 31 #[.pointer (some ⟨tn, 0, none⟩)] ∧ Blk w' (w.heap.size + 1) 42 kc ∧ Blk w' (tn) 80 tc)) (by kernel_rfl) ?_
  change wpAnyH _ _ _ _ _ _ _ _ V1.drew
  have hy : Below V1.heap.size V1 V1.drew := (Below.refl _ _).drew
  replace K := Lib.hid (K.out.trans (hy.mono K.out.size))
  replace HT := Lib.hid (HT.out.below hy)
  replace TB := Lib.hid (TB.out.below hy TB.out.lt)
  replace FB := Lib.hid (FB.out.below hy FB.out.lt)
  replace FK := Lib.hid (FK.out.below hy FK.out.lt)
  replace BT := Lib.hid (BT.out.below hy BT.out.lt)
  replace BK := Lib.hid (BK.out.below hy BK.out.lt)
  replace BF := Lib.hid (BF.out.below hy BF.out.lt)
  replace RP := Lib.hid (RP.out.below hy RP.out.lt)
  replace RC := Lib.hid (RC.out.below hy RC.out.lt)
  replace RB := Lib.hid (RB.out.below hy RB.out.lt)
  clear hy
  generalize V1.drew = Y1h0 at *
  refine tkA 0 (?_) ?_ ⟨BT.out, BK.out, TB.out⟩ ?_
  rotate_left
  · (intro w1 hS; obtain ⟨hS0, hS1, hS2⟩ := hS; have q := hS0.cell 0; go_simp; try with_reducible rfl)
  simp only [Act.put, tS1, tS2, tS3]
  refine tkA 1 (?_) ?_ ⟨BT.out, BK.out, TB.out⟩ ?_
  rotate_left
  · (intro w1 hS; go_simp; try with_reducible rfl)
  simp only [Act.put, tS1, tS2, tS3]
  refine tkA 2 (?_) ?_ ⟨BT.out, BK.out, TB.out⟩ ?_
  rotate_left
  · (intro w1 hS; go_simp; try with_reducible rfl)
  simp only [Act.put, tS1, tS2, tS3]
  refine tkA 3 (?_) ?_ ⟨BT.out, BK.out, TB.out⟩ ?_
  rotate_left
  · (intro w1 hS; obtain ⟨hS0, hS1, hS2⟩ := hS; have q := (hS2.cell 0).trans T0.out; go_simp; try with_reducible rfl)
  simp only [Act.put, tS1, tS2, tS3]
  refine tkA 4 (.agg kc) ?_ ⟨BT.out, BK.out, TB.out⟩ ?_
  · (intro w1 hS; obtain ⟨hS0, hS1, hS2⟩ := hS; exact exec_load 42 (.tmp 4) rfl _ rfl _ (run_blk_load (P := Try.prog) 42 (w.heap.size + 1) _ hS1 Try.underlying42 rfl IK.out))
  simp only [Act.put, tS1, tS2, tS3]
  obtain ⟨gI, hgI⟩ : ∃ g, g = Y1h0.heap.size := ⟨_, rfl⟩
  have hI0 : w.heap.size + 1 + 1 + 1 + 1 + 1 < gI := by rw [hgI]; exact RB.out.lt
  refine tkO 5 (fun KK hK => ?_)
  go_simp
  refine (CPL.out Y1h0).mono ?_
  rintro e Y1h1 ⟨rfl, h1, h2, hy⟩
  replace K := Lib.hid (K.out.trans (hy.mono K.out.size))
  replace HT := Lib.hid (HT.out.below hy)
  replace TB := Lib.hid (TB.out.below hy TB.out.lt)
  replace FB := Lib.hid (FB.out.below hy FB.out.lt)
  replace FK := Lib.hid (FK.out.below hy FK.out.lt)
  replace BT := Lib.hid (BT.out.below hy BT.out.lt)
  replace BK := Lib.hid (BK.out.below hy BK.out.lt)
  replace BF := Lib.hid (BF.out.below hy BF.out.lt)
  replace RP := Lib.hid (RP.out.below hy RP.out.lt)
  replace RC := Lib.hid (RC.out.below hy RC.out.lt)
  replace RB := Lib.hid (RB.out.below hy RB.out.lt)
  clear hy
  rw [← hgI] at h1 h2 ⊢
  have PF := Lib.hid h1
  have PK := Lib.hid h2
  clear h1 h2 hgI
  refine hK.out _ _ ⟨BT.out, BK.out, TB.out⟩ (fun _ => ?_)
  clear hK KK
  try simp only [Act.put, tS1, tS2, tS3]
  refine wpAnyH_done (by kernel_rfl) ?_ _
  simp only [noP]
  go_wp2_with fail
  refine (wpIn_wide (n := 3)).1 ?_
  gi_wp2_with fail
  have hI1 := PK.out.lt
  have HST := Lib.hid (itp_stops 2 (by omega) gI (gI + 1) fn L kc fc hi42 hl4 Y1h1 CP.out PF.out PK.out FB.out)
  refine name_act fun act hact => ?_
  refine wpIn_rangeFunc_ownH (a := act) rfl (by omega) (gf := 62) (lb := #[.pointer (some ⟨gI, 0, none⟩), .pointer (some ⟨gI + 1, 0, none⟩)]) (by rw [hact]; rfl) trivial (enters_of Try.func62 (by kernel_rfl) rfl)
    HST.out (fun h k => Kept.trans h k) (kept_b (fun k hk => by rcases hk with rfl | rfl | rfl <;> omega)) (Below.refl _ _) (fun _ => rfl)
    (fun pre W' => Below Y1h1.heap.size Y1h1 W' ∧ fst1 f qf pre = none)
    (fun cd pre W' => cd = .ret ∧ ∃ o, fst1 f qf pre = some o ∧ Blk W' (w.heap.size + 1 + 1 + 1) 51 (pcP o.1) ∧ Blk W' (w.heap.size + 1 + 1 + 1 + 1) 46 o.2.ce ∧ Blk W' (w.heap.size + 1 + 1 + 1 + 1 + 1) 4 #[.bool true] ∧ Below w.heap.size w W')
    (OwnFrom.and (ownFrom_below (Nat.le_refl _) (Nat.le_refl _)) (ownFrom_pure _ (fun pre => fst1 f qf pre = none)))
    (fun cd s A' B' row hs hg hr => by
      obtain ⟨e1, o, e2, e3, e4, e5, e6⟩ := hs
      exact ⟨e1, o, e2, blk_own _ _ _ _ () A' B' row e3 hg hr, blk_own _ _ _ _ () A' B' row e4 hg hr, blk_own _ _ _ _ () A' B' row e5 hg hr, ownFrom_below (Nat.le_refl _) K.out.size () A' B' row e6 hg hr⟩)
    ⟨Below.refl _ _, rfl⟩
    (fun x a' W' => ∃ bp, Y1h1.heap.size ≤ bp ∧ Blk W' bp 51 (pcP x) ∧ a' = { tmps := (act.tmps.setIfInBounds 18 (.agg (pcP x))).setIfInBounds 9 (.pointer (some ⟨bp, 0, none⟩)), defers := [] })
    (fun x a' _ A' B' row hs hg hr => by
      obtain ⟨bp, e1, e2, e3⟩ := hs
      exact ⟨bp, e1, blk_own _ _ bp _ () A' B' row e2 hg hr, e3⟩)
    ?assign ?body ?done ?stop
  case assign =>
    intro l pre x W' KK hI hK
    have hsz := hI.1.size
    subst hact
    clear CP CG CQ CPL hql HST HT TB FB
    unfold pcP at hK ⊢
    gi_wp2
    exact hK _ _ ((KeepsOthers.alloc _ _).from _) (Kept.below ((Below.refl _ W').alloc (Nat.le_refl _) _) (fun k hk => by rcases hk with rfl | rfl | rfl <;> omega)) ⟨hI.1.alloc hsz _, hI.2⟩ ⟨W'.heap.size, hsz, Blk.new _ _ _, rfl⟩
  case body =>
    rintro l pre x a' W' hwl hrec ⟨hB, hnone⟩ ⟨bp, hbp, hbb, rfl⟩ hlt
    subst hact
    simp only [tS1, tS2, tS3]
    have HNN := Lib.hid hnone
    have PX := Lib.hid hbb
    have HB := Lib.hid hB
    have HBP := Lib.hid hbp
    clear hnone hbb CP CPL hql HST hrec hwl hlt hi42 hl4 PF PK
    replace K := Lib.hid (K.out.trans (hB.mono K.out.size))
    replace HT := Lib.hid (HT.out.below hB)
    replace TB := Lib.hid (TB.out.below hB TB.out.lt)
    replace FB := Lib.hid (FB.out.below hB FB.out.lt)
    replace FK := Lib.hid (FK.out.below hB FK.out.lt)
    replace BT := Lib.hid (BT.out.below hB BT.out.lt)
    replace BK := Lib.hid (BK.out.below hB BK.out.lt)
    replace BF := Lib.hid (BF.out.below hB BF.out.lt)
    replace RP := Lib.hid (RP.out.below hB RP.out.lt)
    replace RC := Lib.hid (RC.out.below hB RC.out.lt)
    replace RB := Lib.hid (RB.out.below hB RB.out.lt)
    clear hB
    have hRB := RB.out.lt
    have hPX := PX.out.lt
    have hTn := TB.out.lt
    have hW0 := HB.out.size
    have hKs := K.out.size
    have KB := Lib.hid (Below.refl W'.heap.size W')
    have IPX : Hid ((Try.prog.info? 51).map (·.size) = some (pcP x).size) := i51c
    have hFK := FK.out.lt
    have CGx := Lib.hid (CG.out x)
    cases hx : f x with
    | none =>
      rw [hx] at CGx
      have HX := Lib.hid (fst1_one_none f qf pre x HNN.out hx)
      have ZI : Hid ((Try.prog.info? 84).map (·.size) = some zSe.size) := by show _ = _; rw [zSe_size]; exact i84
      have ZA : Hid (zSe.all (·.oneCell') = true) := oC_all none
      change Hid (∀ W, _ → Calls _ _ _ _ fun e w' => e = .returned (.tuple #[.agg zSe, .bool false]) ∧ _) at CGx
      clear hx CG CQ
      gi_wp2_with fail
      refine wpIn_region_held_round (S := (fun w' : World => Blk w' (w.heap.size) 31 #[.pointer (some ⟨tn, 0, none⟩)] ∧ Blk w' (bp) 51 (pcP x) ∧ Blk w' (tn) 80 tc)) (by kernel_rfl) (by kernel_rfl) (fun ⟨_, _, h⟩ => h) ?_
      have hy : Below W'.heap.size W' W'.drew := (Below.refl _ _).drew
      replace K := Lib.hid (K.out.trans (hy.mono K.out.size))
      replace HT := Lib.hid (HT.out.below hy)
      replace TB := Lib.hid (TB.out.below hy TB.out.lt)
      replace FB := Lib.hid (FB.out.below hy FB.out.lt)
      replace FK := Lib.hid (FK.out.below hy FK.out.lt)
      replace BT := Lib.hid (BT.out.below hy BT.out.lt)
      replace BK := Lib.hid (BK.out.below hy BK.out.lt)
      replace BF := Lib.hid (BF.out.below hy BF.out.lt)
      replace RP := Lib.hid (RP.out.below hy RP.out.lt)
      replace RC := Lib.hid (RC.out.below hy RC.out.lt)
      replace RB := Lib.hid (RB.out.below hy RB.out.lt)
      replace PX := Lib.hid (PX.out.below hy PX.out.lt)
      replace HB := Lib.hid (HB.out.trans (hy.mono HB.out.size))
      replace KB := Lib.hid (KB.out.trans (hy.mono KB.out.size))
      clear hy
      generalize W'.drew = Y3h0 at *
      refine tkA 0 (?_) ?_ ⟨BT.out, PX.out, TB.out⟩ ?_
      rotate_left
      · (intro w1 hS; obtain ⟨hS0, hS1, hS2⟩ := hS; have q := hS0.cell 0; go_simp; try with_reducible rfl)
      simp only [Act.put, tS1, tS2, tS3]
      refine tkA 1 (?_) ?_ ⟨BT.out, PX.out, TB.out⟩ ?_
      rotate_left
      · (intro w1 hS; go_simp; try with_reducible rfl)
      simp only [Act.put, tS1, tS2, tS3]
      refine tkA 2 (?_) ?_ ⟨BT.out, PX.out, TB.out⟩ ?_
      rotate_left
      · (intro w1 hS; go_simp; try with_reducible rfl)
      simp only [Act.put, tS1, tS2, tS3]
      refine tkA 3 (?_) ?_ ⟨BT.out, PX.out, TB.out⟩ ?_
      rotate_left
      · (intro w1 hS; obtain ⟨hS0, hS1, hS2⟩ := hS; have q := (hS2.cell 1).trans T1.out; go_simp; try with_reducible rfl)
      simp only [Act.put, tS1, tS2, tS3]
      refine tkA 4 (.agg (pcP x)) ?_ ⟨BT.out, PX.out, TB.out⟩ ?_
      · (intro w1 hS; obtain ⟨hS0, hS1, hS2⟩ := hS; exact exec_load 51 (.tmp 9) rfl _ rfl _ (run_blk_load (P := Try.prog) 51 (bp) _ hS1 Try.underlying51 rfl IPX.out))
      simp only [Act.put, tS1, tS2, tS3]
      refine tkB 5 9 (fun KK hK => ?_) (fun KK hK => ?_)
      · skip
        go_simp
        refine (CGx.out Y3h0 HT.out.G).mono ?_
        rintro e Y3h1 ⟨rfl, hy⟩
        replace K := Lib.hid (K.out.trans (hy.mono K.out.size))
        replace HT := Lib.hid (HT.out.below hy)
        replace TB := Lib.hid (TB.out.below hy TB.out.lt)
        replace FB := Lib.hid (FB.out.below hy FB.out.lt)
        replace FK := Lib.hid (FK.out.below hy FK.out.lt)
        replace BT := Lib.hid (BT.out.below hy BT.out.lt)
        replace BK := Lib.hid (BK.out.below hy BK.out.lt)
        replace BF := Lib.hid (BF.out.below hy BF.out.lt)
        replace RP := Lib.hid (RP.out.below hy RP.out.lt)
        replace RC := Lib.hid (RC.out.below hy RC.out.lt)
        replace RB := Lib.hid (RB.out.below hy RB.out.lt)
        replace PX := Lib.hid (PX.out.below hy PX.out.lt)
        replace HB := Lib.hid (HB.out.trans (hy.mono HB.out.size))
        replace KB := Lib.hid (KB.out.trans (hy.mono KB.out.size))
        clear hy
        refine hK.out _ _ ⟨BT.out, PX.out, TB.out⟩ (fun _ => ?_)
        clear hK KK
        try simp only [Act.put, tS1, tS2, tS3]
        refine tkA 6 (?_) ?_ ⟨BT.out, PX.out, TB.out⟩ ?_
        rotate_left
        · (intro w1 hS; go_simp; try with_reducible rfl)
        simp only [Act.put, tS1, tS2, tS3]
        refine tkA 7 (?_) ?_ ⟨BT.out, PX.out, TB.out⟩ ?_
        rotate_left
        · (intro w1 hS; go_simp; try with_reducible rfl)
        simp only [Act.put, tS1, tS2, tS3]
        refine tkA 8 (?_) ?_ ⟨BT.out, PX.out, TB.out⟩ ?_
        rotate_left
        · (intro w1 hS; go_simp; try with_reducible rfl)
        simp only [Act.put, tS1, tS2, tS3]
        have hz84 := zero84
        refine tkO 9 (fun KK hK => ?_)
        go_simp
        have pb := Blk.new Y3h1 84 zSe
        have hy := (Below.refl Y3h1.heap.size Y3h1).alloc (Nat.le_refl _) (.cells zSe 84)
        obtain ⟨gX, hgX⟩ : ∃ g, g = Y3h1.heap.size := ⟨_, rfl⟩
        have hg0X : W'.heap.size ≤ gX := by rw [hgX]; exact KB.out.size
        replace K := Lib.hid (K.out.trans (hy.mono K.out.size))
        replace HT := Lib.hid (HT.out.below hy)
        replace TB := Lib.hid (TB.out.below hy TB.out.lt)
        replace FB := Lib.hid (FB.out.below hy FB.out.lt)
        replace FK := Lib.hid (FK.out.below hy FK.out.lt)
        replace BT := Lib.hid (BT.out.below hy BT.out.lt)
        replace BK := Lib.hid (BK.out.below hy BK.out.lt)
        replace BF := Lib.hid (BF.out.below hy BF.out.lt)
        replace RP := Lib.hid (RP.out.below hy RP.out.lt)
        replace RC := Lib.hid (RC.out.below hy RC.out.lt)
        replace RB := Lib.hid (RB.out.below hy RB.out.lt)
        replace PX := Lib.hid (PX.out.below hy PX.out.lt)
        replace HB := Lib.hid (HB.out.trans (hy.mono HB.out.size))
        replace KB := Lib.hid (KB.out.trans (hy.mono KB.out.size))
        rw [← hgX] at pb ⊢
        have X := Lib.hid pb
        clear pb hy hgX
        generalize Y3h1.alloc (.cells zSe 84) = Y3h2 at *
        refine hK.out _ _ ⟨BT.out, PX.out, TB.out⟩ (fun _ => ?_)
        clear hK KK
        try simp only [Act.put, tS1, tS2, tS3]
        clear hz84
        refine tkO 10 (fun KK hK => ?_)
        rw [if_pos (by rfl)]
        refine wp_blk_store 84 (.tmp 10) (.tmp 26) rfl zSe rfl rfl X.out zz84 ZI.out ZA.out ?_
        intro Y3h3 hA hF hB
        replace K := Lib.hid (K.out.trans (hB _ (by omega)))
        replace HT := Lib.hid (HT.out.belowB (hB (w.heap.size) (by omega)) (by omega))
        replace TB := Lib.hid (show Blk _ _ _ _ from (hF _ (by omega)).trans TB.out)
        replace FB := Lib.hid (show Blk _ _ _ _ from (hF _ (by omega)).trans FB.out)
        replace FK := Lib.hid (show Blk _ _ _ _ from (hF _ (by omega)).trans FK.out)
        replace BT := Lib.hid (show Blk _ _ _ _ from (hF _ (by omega)).trans BT.out)
        replace BK := Lib.hid (show Blk _ _ _ _ from (hF _ (by omega)).trans BK.out)
        replace BF := Lib.hid (show Blk _ _ _ _ from (hF _ (by omega)).trans BF.out)
        replace RP := Lib.hid (show Blk _ _ _ _ from (hF _ (by omega)).trans RP.out)
        replace RC := Lib.hid (show Blk _ _ _ _ from (hF _ (by omega)).trans RC.out)
        replace RB := Lib.hid (show Blk _ _ _ _ from (hF _ (by omega)).trans RB.out)
        replace PX := Lib.hid (show Blk _ _ _ _ from (hF _ (by omega)).trans PX.out)
        replace HB := Lib.hid (HB.out.trans (hB _ (by omega)))
        replace KB := Lib.hid (KB.out.trans (hB _ (by omega)))
        replace X := Lib.hid hA
        clear hA hF hB
        refine hK.out _ _ ⟨BT.out, PX.out, TB.out⟩ (fun _ => ?_)
        clear hK KK
        try simp only [Act.put]
        refine tkA 11 (?_) ?_ ⟨BT.out, PX.out, TB.out⟩ ?_
        rotate_left
        · (intro w1 hS; go_simp; try with_reducible rfl)
        simp only [Act.put, tS1, tS2, tS3]
        refine wpAnyH_done (by kernel_rfl) ?_ _
        gi_wp2
        refine ⟨fun f hf => (by cases hf), ?_⟩
        gi_wp2
        have hr := HB.out
        exact ⟨keepsF_below KB.out, Kept.below KB.out (fun k hk => by rcases hk with rfl | rfl | rfl <;> omega), HB.out, HX.out⟩
      · skip
        have hz84 := zero84
        go_simp
        have pb := Blk.new Y3h0 84 zSe
        have hy := (Below.refl Y3h0.heap.size Y3h0).alloc (Nat.le_refl _) (.cells zSe 84)
        obtain ⟨gX, hgX⟩ : ∃ g, g = Y3h0.heap.size := ⟨_, rfl⟩
        have hg0X : W'.heap.size ≤ gX := by rw [hgX]; exact KB.out.size
        replace K := Lib.hid (K.out.trans (hy.mono K.out.size))
        replace HT := Lib.hid (HT.out.below hy)
        replace TB := Lib.hid (TB.out.below hy TB.out.lt)
        replace FB := Lib.hid (FB.out.below hy FB.out.lt)
        replace FK := Lib.hid (FK.out.below hy FK.out.lt)
        replace BT := Lib.hid (BT.out.below hy BT.out.lt)
        replace BK := Lib.hid (BK.out.below hy BK.out.lt)
        replace BF := Lib.hid (BF.out.below hy BF.out.lt)
        replace RP := Lib.hid (RP.out.below hy RP.out.lt)
        replace RC := Lib.hid (RC.out.below hy RC.out.lt)
        replace RB := Lib.hid (RB.out.below hy RB.out.lt)
        replace PX := Lib.hid (PX.out.below hy PX.out.lt)
        replace HB := Lib.hid (HB.out.trans (hy.mono HB.out.size))
        replace KB := Lib.hid (KB.out.trans (hy.mono KB.out.size))
        rw [← hgX] at pb ⊢
        have X := Lib.hid pb
        clear pb hy hgX
        generalize Y3h0.alloc (.cells zSe 84) = Y3h1 at *
        refine hK.out _ _ ⟨BT.out, PX.out, TB.out⟩ (fun _ => ?_)
        clear hK KK
        try simp only [Act.put, tS1, tS2, tS3]
        clear hz84
        refine tkO 5 (fun KK hK => ?_)
        go_simp
        refine (CGx.out Y3h1 HT.out.G).mono ?_
        rintro e Y3h2 ⟨rfl, hy⟩
        replace K := Lib.hid (K.out.trans (hy.mono K.out.size))
        replace HT := Lib.hid (HT.out.below hy)
        replace TB := Lib.hid (TB.out.below hy TB.out.lt)
        replace FB := Lib.hid (FB.out.below hy FB.out.lt)
        replace FK := Lib.hid (FK.out.below hy FK.out.lt)
        replace BT := Lib.hid (BT.out.below hy BT.out.lt)
        replace BK := Lib.hid (BK.out.below hy BK.out.lt)
        replace BF := Lib.hid (BF.out.below hy BF.out.lt)
        replace RP := Lib.hid (RP.out.below hy RP.out.lt)
        replace RC := Lib.hid (RC.out.below hy RC.out.lt)
        replace RB := Lib.hid (RB.out.below hy RB.out.lt)
        replace PX := Lib.hid (PX.out.below hy PX.out.lt)
        replace HB := Lib.hid (HB.out.trans (hy.mono HB.out.size))
        replace KB := Lib.hid (KB.out.trans (hy.mono KB.out.size))
        replace X := Lib.hid (X.out.below hy X.out.lt)
        clear hy
        refine hK.out _ _ ⟨BT.out, PX.out, TB.out⟩ (fun _ => ?_)
        clear hK KK
        try simp only [Act.put, tS1, tS2, tS3]
        refine tkA 6 (?_) ?_ ⟨BT.out, PX.out, TB.out⟩ ?_
        rotate_left
        · (intro w1 hS; go_simp; try with_reducible rfl)
        simp only [Act.put, tS1, tS2, tS3]
        refine tkA 7 (?_) ?_ ⟨BT.out, PX.out, TB.out⟩ ?_
        rotate_left
        · (intro w1 hS; go_simp; try with_reducible rfl)
        simp only [Act.put, tS1, tS2, tS3]
        refine tkA 8 (?_) ?_ ⟨BT.out, PX.out, TB.out⟩ ?_
        rotate_left
        · (intro w1 hS; go_simp; try with_reducible rfl)
        simp only [Act.put, tS1, tS2, tS3]
        refine tkO 10 (fun KK hK => ?_)
        rw [if_pos (by rfl)]
        refine wp_blk_store 84 (.tmp 10) (.tmp 26) rfl zSe rfl rfl X.out zz84 ZI.out ZA.out ?_
        intro Y3h3 hA hF hB
        replace K := Lib.hid (K.out.trans (hB _ (by omega)))
        replace HT := Lib.hid (HT.out.belowB (hB (w.heap.size) (by omega)) (by omega))
        replace TB := Lib.hid (show Blk _ _ _ _ from (hF _ (by omega)).trans TB.out)
        replace FB := Lib.hid (show Blk _ _ _ _ from (hF _ (by omega)).trans FB.out)
        replace FK := Lib.hid (show Blk _ _ _ _ from (hF _ (by omega)).trans FK.out)
        replace BT := Lib.hid (show Blk _ _ _ _ from (hF _ (by omega)).trans BT.out)
        replace BK := Lib.hid (show Blk _ _ _ _ from (hF _ (by omega)).trans BK.out)
        replace BF := Lib.hid (show Blk _ _ _ _ from (hF _ (by omega)).trans BF.out)
        replace RP := Lib.hid (show Blk _ _ _ _ from (hF _ (by omega)).trans RP.out)
        replace RC := Lib.hid (show Blk _ _ _ _ from (hF _ (by omega)).trans RC.out)
        replace RB := Lib.hid (show Blk _ _ _ _ from (hF _ (by omega)).trans RB.out)
        replace PX := Lib.hid (show Blk _ _ _ _ from (hF _ (by omega)).trans PX.out)
        replace HB := Lib.hid (HB.out.trans (hB _ (by omega)))
        replace KB := Lib.hid (KB.out.trans (hB _ (by omega)))
        replace X := Lib.hid hA
        clear hA hF hB
        refine hK.out _ _ ⟨BT.out, PX.out, TB.out⟩ (fun _ => ?_)
        clear hK KK
        try simp only [Act.put]
        refine tkA 11 (?_) ?_ ⟨BT.out, PX.out, TB.out⟩ ?_
        rotate_left
        · (intro w1 hS; go_simp; try with_reducible rfl)
        simp only [Act.put, tS1, tS2, tS3]
        refine wpAnyH_done (by kernel_rfl) ?_ _
        gi_wp2
        refine ⟨fun f hf => (by cases hf), ?_⟩
        gi_wp2
        have hr := HB.out
        exact ⟨keepsF_below KB.out, Kept.below KB.out (fun k hk => by rcases hk with rfl | rfl | rfl <;> omega), HB.out, HX.out⟩
    | some s =>
      rw [hx] at CGx
      have SI := s.ib
      have SA : Hid (s.cs.all (·.oneCell') = true) := oC_all (some s)
      have SY : Hid (s.cs.size = zSe.size) := by show _ = _; rw [s.size, zSe_size]
      have CQs := Lib.hid (CQ.out s)
      have SP := Lib.hid (seC_cell s.k s.fit true s.d s.v s.r)
      change Hid ((s.cs.toList.drop 37).take s.ce.toList.length = s.ce.toList) at SP
      have HX0 := Lib.hid (fun hq => fst1_one_no f qf pre x s HNN.out hx hq)
      have HX1 := Lib.hid (fun hq => fst1_one_yes f qf pre x s HNN.out hx hq)
      change Hid (∀ W, _ → Calls _ _ _ _ fun e w' => e = .returned (.tuple #[.agg s.cs, .bool true]) ∧ _) at CGx
      clear hx CG CQ
      gi_wp2_with fail
      refine wpIn_region_held_round (S := (fun w' : World => Blk w' (w.heap.size) 31 #[.pointer (some ⟨tn, 0, none⟩)] ∧ Blk w' (bp) 51 (pcP x) ∧ Blk w' (tn) 80 tc)) (by kernel_rfl) (by kernel_rfl) (fun ⟨_, _, h⟩ => h) ?_
      have hy : Below W'.heap.size W' W'.drew := (Below.refl _ _).drew
      replace K := Lib.hid (K.out.trans (hy.mono K.out.size))
      replace HT := Lib.hid (HT.out.below hy)
      replace TB := Lib.hid (TB.out.below hy TB.out.lt)
      replace FB := Lib.hid (FB.out.below hy FB.out.lt)
      replace FK := Lib.hid (FK.out.below hy FK.out.lt)
      replace BT := Lib.hid (BT.out.below hy BT.out.lt)
      replace BK := Lib.hid (BK.out.below hy BK.out.lt)
      replace BF := Lib.hid (BF.out.below hy BF.out.lt)
      replace RP := Lib.hid (RP.out.below hy RP.out.lt)
      replace RC := Lib.hid (RC.out.below hy RC.out.lt)
      replace RB := Lib.hid (RB.out.below hy RB.out.lt)
      replace PX := Lib.hid (PX.out.below hy PX.out.lt)
      replace HB := Lib.hid (HB.out.trans (hy.mono HB.out.size))
      replace KB := Lib.hid (KB.out.trans (hy.mono KB.out.size))
      clear hy
      generalize W'.drew = Y3h0 at *
      refine tkA 0 (?_) ?_ ⟨BT.out, PX.out, TB.out⟩ ?_
      rotate_left
      · (intro w1 hS; obtain ⟨hS0, hS1, hS2⟩ := hS; have q := hS0.cell 0; go_simp; try with_reducible rfl)
      simp only [Act.put, tS1, tS2, tS3]
      refine tkA 1 (?_) ?_ ⟨BT.out, PX.out, TB.out⟩ ?_
      rotate_left
      · (intro w1 hS; go_simp; try with_reducible rfl)
      simp only [Act.put, tS1, tS2, tS3]
      refine tkA 2 (?_) ?_ ⟨BT.out, PX.out, TB.out⟩ ?_
      rotate_left
      · (intro w1 hS; go_simp; try with_reducible rfl)
      simp only [Act.put, tS1, tS2, tS3]
      refine tkA 3 (?_) ?_ ⟨BT.out, PX.out, TB.out⟩ ?_
      rotate_left
      · (intro w1 hS; obtain ⟨hS0, hS1, hS2⟩ := hS; have q := (hS2.cell 1).trans T1.out; go_simp; try with_reducible rfl)
      simp only [Act.put, tS1, tS2, tS3]
      refine tkA 4 (.agg (pcP x)) ?_ ⟨BT.out, PX.out, TB.out⟩ ?_
      · (intro w1 hS; obtain ⟨hS0, hS1, hS2⟩ := hS; exact exec_load 51 (.tmp 9) rfl _ rfl _ (run_blk_load (P := Try.prog) 51 (bp) _ hS1 Try.underlying51 rfl IPX.out))
      simp only [Act.put, tS1, tS2, tS3]
      refine tkB 5 9 (fun KK hK => ?_) (fun KK hK => ?_)
      · skip
        go_simp
        refine (CGx.out Y3h0 HT.out.G).mono ?_
        rintro e Y3h1 ⟨rfl, hy⟩
        replace K := Lib.hid (K.out.trans (hy.mono K.out.size))
        replace HT := Lib.hid (HT.out.below hy)
        replace TB := Lib.hid (TB.out.below hy TB.out.lt)
        replace FB := Lib.hid (FB.out.below hy FB.out.lt)
        replace FK := Lib.hid (FK.out.below hy FK.out.lt)
        replace BT := Lib.hid (BT.out.below hy BT.out.lt)
        replace BK := Lib.hid (BK.out.below hy BK.out.lt)
        replace BF := Lib.hid (BF.out.below hy BF.out.lt)
        replace RP := Lib.hid (RP.out.below hy RP.out.lt)
        replace RC := Lib.hid (RC.out.below hy RC.out.lt)
        replace RB := Lib.hid (RB.out.below hy RB.out.lt)
        replace PX := Lib.hid (PX.out.below hy PX.out.lt)
        replace HB := Lib.hid (HB.out.trans (hy.mono HB.out.size))
        replace KB := Lib.hid (KB.out.trans (hy.mono KB.out.size))
        clear hy
        refine hK.out _ _ ⟨BT.out, PX.out, TB.out⟩ (fun _ => ?_)
        clear hK KK
        try simp only [Act.put, tS1, tS2, tS3]
        refine tkA 6 (?_) ?_ ⟨BT.out, PX.out, TB.out⟩ ?_
        rotate_left
        · (intro w1 hS; go_simp; try with_reducible rfl)
        simp only [Act.put, tS1, tS2, tS3]
        refine tkA 7 (?_) ?_ ⟨BT.out, PX.out, TB.out⟩ ?_
        rotate_left
        · (intro w1 hS; go_simp; try with_reducible rfl)
        simp only [Act.put, tS1, tS2, tS3]
        refine tkA 8 (?_) ?_ ⟨BT.out, PX.out, TB.out⟩ ?_
        rotate_left
        · (intro w1 hS; go_simp; try with_reducible rfl)
        simp only [Act.put, tS1, tS2, tS3]
        have hz84 := zero84
        refine tkO 9 (fun KK hK => ?_)
        go_simp
        have pb := Blk.new Y3h1 84 zSe
        have hy := (Below.refl Y3h1.heap.size Y3h1).alloc (Nat.le_refl _) (.cells zSe 84)
        obtain ⟨gX, hgX⟩ : ∃ g, g = Y3h1.heap.size := ⟨_, rfl⟩
        have hg0X : W'.heap.size ≤ gX := by rw [hgX]; exact KB.out.size
        replace K := Lib.hid (K.out.trans (hy.mono K.out.size))
        replace HT := Lib.hid (HT.out.below hy)
        replace TB := Lib.hid (TB.out.below hy TB.out.lt)
        replace FB := Lib.hid (FB.out.below hy FB.out.lt)
        replace FK := Lib.hid (FK.out.below hy FK.out.lt)
        replace BT := Lib.hid (BT.out.below hy BT.out.lt)
        replace BK := Lib.hid (BK.out.below hy BK.out.lt)
        replace BF := Lib.hid (BF.out.below hy BF.out.lt)
        replace RP := Lib.hid (RP.out.below hy RP.out.lt)
        replace RC := Lib.hid (RC.out.below hy RC.out.lt)
        replace RB := Lib.hid (RB.out.below hy RB.out.lt)
        replace PX := Lib.hid (PX.out.below hy PX.out.lt)
        replace HB := Lib.hid (HB.out.trans (hy.mono HB.out.size))
        replace KB := Lib.hid (KB.out.trans (hy.mono KB.out.size))
        rw [← hgX] at pb ⊢
        have X := Lib.hid pb
        clear pb hy hgX
        generalize Y3h1.alloc (.cells zSe 84) = Y3h2 at *
        refine hK.out _ _ ⟨BT.out, PX.out, TB.out⟩ (fun _ => ?_)
        clear hK KK
        try simp only [Act.put, tS1, tS2, tS3]
        clear hz84
        refine tkO 10 (fun KK hK => ?_)
        rw [if_pos (by rfl)]
        refine wp_blk_store 84 (.tmp 10) (.tmp 26) rfl s.cs rfl rfl X.out SY.out SI.out SA.out ?_
        intro Y3h3 hA hF hB
        replace K := Lib.hid (K.out.trans (hB _ (by omega)))
        replace HT := Lib.hid (HT.out.belowB (hB (w.heap.size) (by omega)) (by omega))
        replace TB := Lib.hid (show Blk _ _ _ _ from (hF _ (by omega)).trans TB.out)
        replace FB := Lib.hid (show Blk _ _ _ _ from (hF _ (by omega)).trans FB.out)
        replace FK := Lib.hid (show Blk _ _ _ _ from (hF _ (by omega)).trans FK.out)
        replace BT := Lib.hid (show Blk _ _ _ _ from (hF _ (by omega)).trans BT.out)
        replace BK := Lib.hid (show Blk _ _ _ _ from (hF _ (by omega)).trans BK.out)
        replace BF := Lib.hid (show Blk _ _ _ _ from (hF _ (by omega)).trans BF.out)
        replace RP := Lib.hid (show Blk _ _ _ _ from (hF _ (by omega)).trans RP.out)
        replace RC := Lib.hid (show Blk _ _ _ _ from (hF _ (by omega)).trans RC.out)
        replace RB := Lib.hid (show Blk _ _ _ _ from (hF _ (by omega)).trans RB.out)
        replace PX := Lib.hid (show Blk _ _ _ _ from (hF _ (by omega)).trans PX.out)
        replace HB := Lib.hid (HB.out.trans (hB _ (by omega)))
        replace KB := Lib.hid (KB.out.trans (hB _ (by omega)))
        replace X := Lib.hid hA
        clear hA hF hB
        refine hK.out _ _ ⟨BT.out, PX.out, TB.out⟩ (fun _ => ?_)
        clear hK KK
        try simp only [Act.put]
        refine tkA 11 (?_) ?_ ⟨BT.out, PX.out, TB.out⟩ ?_
        rotate_left
        · (intro w1 hS; go_simp; try with_reducible rfl)
        simp only [Act.put, tS1, tS2, tS3]
        refine wpAnyH_done (by kernel_rfl) ?_ _
        have c5 := BF.out.cell 0
        have L31 : (loadVar 84 ⟨gX, 0, none⟩).run Try.prog Y3h3 = .ok (.agg s.cs) Y3h3 := run_blk_load (P := Try.prog) 84 gX _ X.out Try.underlying84 rfl SI.out
        replace L31 := Lib.hid L31
        gi_wp2_with ((with_reducible refine wpListIn_load_want (op := ⟨some 31, .load 84 (.tmp 10), _, _, _, _⟩) ?wg1 84 (.tmp 10) ?wo1 ⟨gX, 0, none⟩ ?wx1 (.agg s.cs) L31.out ?_); (case wg1 => rfl); (case wo1 => rfl); (case wx1 => rfl))
        refine ⟨trivial, ?_⟩
        refine (CallsIn.inRound l (callsIn_wide.2 (CQs.out Y3h3 FK.out))).mono ?_
        rintro e Vc ⟨rfl, hy⟩
        clear L31 c5
        replace K := Lib.hid (K.out.trans (hy.mono K.out.size))
        replace HT := Lib.hid (HT.out.below hy)
        replace TB := Lib.hid (TB.out.below hy TB.out.lt)
        replace FB := Lib.hid (FB.out.below hy FB.out.lt)
        replace FK := Lib.hid (FK.out.below hy FK.out.lt)
        replace BT := Lib.hid (BT.out.below hy BT.out.lt)
        replace BK := Lib.hid (BK.out.below hy BK.out.lt)
        replace BF := Lib.hid (BF.out.below hy BF.out.lt)
        replace RP := Lib.hid (RP.out.below hy RP.out.lt)
        replace RC := Lib.hid (RC.out.below hy RC.out.lt)
        replace RB := Lib.hid (RB.out.below hy RB.out.lt)
        replace PX := Lib.hid (PX.out.below hy PX.out.lt)
        replace HB := Lib.hid (HB.out.trans (hy.mono HB.out.size))
        replace KB := Lib.hid (KB.out.trans (hy.mono KB.out.size))
        replace X := Lib.hid (X.out.below hy X.out.lt)
        clear hy
        cases hq : qf s with
        | false =>
          gi_wp2
          have hr := HB.out
          exact ⟨keepsF_below KB.out, Kept.below KB.out (fun k hk => by rcases hk with rfl | rfl | rfl <;> omega), HB.out, HX0.out hq⟩
        | true =>
          have HX := Lib.hid (HX1.out hq)
          clear hq HX0 HX1 CQs CGx
          have KF := Lib.hid (keepsF_below (b := Y1h1.heap.size) KB.out)
          clear KB HB BT TB FB FK
          gi_wp2_with fail
          have IX0 := IPX.out
          have PY : Hid ((pcP x).size = (#[Value.int .i64 0, .int .i64 0] : Array Value).size) := rfl
          have PA : Hid ((pcP x).all (·.oneCell') = true) := pcP_all x
          have CY : Hid (s.ce.size = zCe.size) := rfl
          have CI : Hid ((Try.prog.info? 46).map (·.size) = some s.ce.size) := i46c
          have CA : Hid (s.ce.all (·.oneCell') = true) := ceC_all _ _ _ _
          have CI2 : Hid ((Try.prog.info? 46).map (·.size) = some s.ce.toList.length) := i46c
          refine wpIn_region_held_round (S := (fun w' : World => Blk w' (bp) 51 (pcP x) ∧ Blk w' (gX) 84 s.cs)) (by kernel_rfl) (by kernel_rfl) (fun ⟨_, _, h⟩ => h) ?_
          have hy : Below Vc.heap.size Vc Vc.drew := (Below.refl _ _).drew
          replace K := Lib.hid (K.out.trans (hy.mono K.out.size))
          replace HT := Lib.hid (HT.out.below hy)
          replace BK := Lib.hid (BK.out.below hy BK.out.lt)
          replace BF := Lib.hid (BF.out.below hy BF.out.lt)
          replace RP := Lib.hid (RP.out.below hy RP.out.lt)
          replace RC := Lib.hid (RC.out.below hy RC.out.lt)
          replace RB := Lib.hid (RB.out.below hy RB.out.lt)
          replace PX := Lib.hid (PX.out.below hy PX.out.lt)
          replace X := Lib.hid (X.out.below hy X.out.lt)
          replace KF := Lib.hid (KF.out.trans (keepsF_below hy))
          clear hy
          generalize Vc.drew = Y5h0 at *
          refine tkA 0 (.agg (pcP x)) ?_ ⟨PX.out, X.out⟩ ?_
          · (intro w1 hS; obtain ⟨hS0, hS1⟩ := hS; exact exec_load 51 (.tmp 9) rfl _ rfl _ (run_blk_load (P := Try.prog) 51 (bp) _ hS0 Try.underlying51 rfl IPX.out))
          simp only [Act.put, tS1, tS2, tS3]
          refine tkA 1 (?_) ?_ ⟨PX.out, X.out⟩ ?_
          rotate_left
          · (intro w1 hS; go_simp; try with_reducible rfl)
          simp only [Act.put, tS1, tS2, tS3]
          refine tkA 2 (.agg s.ce) ?_ ⟨PX.out, X.out⟩ ?_
          · (intro w1 hS; obtain ⟨hS0, hS1⟩ := hS; exact exec_load 46 (.tmp 35) rfl _ rfl _ (by have h := run_part_load (P := Try.prog) 46 37 s.ce.toList _ hS1 SP.out Try.underlying46 rfl CI2.out; rwa [Array.toArray_toList] at h))
          simp only [Act.put, tS1, tS2, tS3]
          refine tkO 3 (fun KK hK => ?_)
          rw [if_pos (by rfl)]
          refine wp_blk_store 51 (.tmp 6) (.tmp 34) rfl (pcP x) rfl rfl RP.out PY.out IPX.out PA.out ?_
          intro Y5h1 hA hF hB
          replace K := Lib.hid (K.out.trans (hB _ (by omega)))
          replace HT := Lib.hid (HT.out.belowB (hB (w.heap.size) (by omega)) (by omega))
          replace BK := Lib.hid (show Blk _ _ _ _ from (hF _ (by omega)).trans BK.out)
          replace BF := Lib.hid (show Blk _ _ _ _ from (hF _ (by omega)).trans BF.out)
          replace RC := Lib.hid (show Blk _ _ _ _ from (hF _ (by omega)).trans RC.out)
          replace RB := Lib.hid (show Blk _ _ _ _ from (hF _ (by omega)).trans RB.out)
          replace PX := Lib.hid (show Blk _ _ _ _ from (hF _ (by omega)).trans PX.out)
          replace X := Lib.hid (show Blk _ _ _ _ from (hF _ (by omega)).trans X.out)
          replace KF := Lib.hid (KF.out.trans (keepsF_store RP.out hF (hB 0 (Nat.zero_le _)).size))
          replace RP := Lib.hid hA
          clear hA hF hB
          refine hK.out _ _ ⟨PX.out, X.out⟩ (fun _ => ?_)
          clear hK KK
          try simp only [Act.put]
          refine tkO 4 (fun KK hK => ?_)
          rw [if_pos (by rfl)]
          refine wp_blk_store 46 (.tmp 7) (.tmp 36) rfl s.ce rfl rfl RC.out CY.out CI.out CA.out ?_
          intro Y5h2 hA hF hB
          replace K := Lib.hid (K.out.trans (hB _ (by omega)))
          replace HT := Lib.hid (HT.out.belowB (hB (w.heap.size) (by omega)) (by omega))
          replace BK := Lib.hid (show Blk _ _ _ _ from (hF _ (by omega)).trans BK.out)
          replace BF := Lib.hid (show Blk _ _ _ _ from (hF _ (by omega)).trans BF.out)
          replace RP := Lib.hid (show Blk _ _ _ _ from (hF _ (by omega)).trans RP.out)
          replace RB := Lib.hid (show Blk _ _ _ _ from (hF _ (by omega)).trans RB.out)
          replace PX := Lib.hid (show Blk _ _ _ _ from (hF _ (by omega)).trans PX.out)
          replace X := Lib.hid (show Blk _ _ _ _ from (hF _ (by omega)).trans X.out)
          replace KF := Lib.hid (KF.out.trans (keepsF_store RC.out hF (hB 0 (Nat.zero_le _)).size))
          replace RC := Lib.hid hA
          clear hA hF hB
          refine hK.out _ _ ⟨PX.out, X.out⟩ (fun _ => ?_)
          clear hK KK
          try simp only [Act.put]
          refine tkO 5 (fun KK hK => ?_)
          have k1 : Y5h2.cell? ⟨w.heap.size + 1 + 1 + 1 + 1 + 1, 0, none⟩ = some (.bool false) := RB.out.cell 0
          have k2 := RB.out.frozen 0
          go_simp
          replace K := Lib.hid (K.out.setCell (p := ⟨w.heap.size + 1 + 1 + 1 + 1 + 1, 0, none⟩) (by show _ ≤ w.heap.size + 1 + 1 + 1 + 1 + 1; omega) (.bool true))
          replace HT := Lib.hid (HT.out.belowB (((Below.refl (w.heap.size) Y5h2).setCell (p := ⟨w.heap.size + 1 + 1 + 1 + 1 + 1, 0, none⟩) (by show _ ≤ w.heap.size + 1 + 1 + 1 + 1 + 1; omega) (.bool true))) (by omega))
          replace BK := Lib.hid (BK.out.far (p := ⟨w.heap.size + 1 + 1 + 1 + 1 + 1, 0, none⟩) (by show _ ≠ w.heap.size + 1 + 1 + 1 + 1 + 1; omega) (.bool true))
          replace BF := Lib.hid (BF.out.far (p := ⟨w.heap.size + 1 + 1 + 1 + 1 + 1, 0, none⟩) (by show _ ≠ w.heap.size + 1 + 1 + 1 + 1 + 1; omega) (.bool true))
          replace RP := Lib.hid (RP.out.far (p := ⟨w.heap.size + 1 + 1 + 1 + 1 + 1, 0, none⟩) (by show _ ≠ w.heap.size + 1 + 1 + 1 + 1 + 1; omega) (.bool true))
          replace RC := Lib.hid (RC.out.far (p := ⟨w.heap.size + 1 + 1 + 1 + 1 + 1, 0, none⟩) (by show _ ≠ w.heap.size + 1 + 1 + 1 + 1 + 1; omega) (.bool true))
          replace PX := Lib.hid (PX.out.far (p := ⟨w.heap.size + 1 + 1 + 1 + 1 + 1, 0, none⟩) (by show _ ≠ w.heap.size + 1 + 1 + 1 + 1 + 1; omega) (.bool true))
          replace X := Lib.hid (X.out.far (p := ⟨w.heap.size + 1 + 1 + 1 + 1 + 1, 0, none⟩) (by show _ ≠ w.heap.size + 1 + 1 + 1 + 1 + 1; omega) (.bool true))
          replace KF := Lib.hid (KF.out.trans ((KeepsOthers.setCell Y5h2 ⟨w.heap.size + 1 + 1 + 1 + 1 + 1, 0, none⟩ (.bool true)).from _))
          replace RB := Lib.hid (show Blk _ _ 4 #[.bool true] from RB.out.set_ 0 (.bool true))
          clear k1 k2
          generalize Y5h2.setCell ⟨w.heap.size + 1 + 1 + 1 + 1 + 1, 0, none⟩ (.bool true) = Y5h3 at *
          refine hK.out _ _ ⟨PX.out, X.out⟩ (fun _ => ?_)
          clear hK KK
          try simp only [Act.put]
          refine wpAnyH_done (by kernel_rfl) ?_ _
          gi_wp2
          exact ⟨KF.out, rfl, (x, s), HX.out, RP.out, RC.out, RB.out, K.out⟩
      · skip
        have hz84 := zero84
        go_simp
        have pb := Blk.new Y3h0 84 zSe
        have hy := (Below.refl Y3h0.heap.size Y3h0).alloc (Nat.le_refl _) (.cells zSe 84)
        obtain ⟨gX, hgX⟩ : ∃ g, g = Y3h0.heap.size := ⟨_, rfl⟩
        have hg0X : W'.heap.size ≤ gX := by rw [hgX]; exact KB.out.size
        replace K := Lib.hid (K.out.trans (hy.mono K.out.size))
        replace HT := Lib.hid (HT.out.below hy)
        replace TB := Lib.hid (TB.out.below hy TB.out.lt)
        replace FB := Lib.hid (FB.out.below hy FB.out.lt)
        replace FK := Lib.hid (FK.out.below hy FK.out.lt)
        replace BT := Lib.hid (BT.out.below hy BT.out.lt)
        replace BK := Lib.hid (BK.out.below hy BK.out.lt)
        replace BF := Lib.hid (BF.out.below hy BF.out.lt)
        replace RP := Lib.hid (RP.out.below hy RP.out.lt)
        replace RC := Lib.hid (RC.out.below hy RC.out.lt)
        replace RB := Lib.hid (RB.out.below hy RB.out.lt)
        replace PX := Lib.hid (PX.out.below hy PX.out.lt)
        replace HB := Lib.hid (HB.out.trans (hy.mono HB.out.size))
        replace KB := Lib.hid (KB.out.trans (hy.mono KB.out.size))
        rw [← hgX] at pb ⊢
        have X := Lib.hid pb
        clear pb hy hgX
        generalize Y3h0.alloc (.cells zSe 84) = Y3h1 at *
        refine hK.out _ _ ⟨BT.out, PX.out, TB.out⟩ (fun _ => ?_)
        clear hK KK
        try simp only [Act.put, tS1, tS2, tS3]
        clear hz84
        refine tkO 5 (fun KK hK => ?_)
        go_simp
        refine (CGx.out Y3h1 HT.out.G).mono ?_
        rintro e Y3h2 ⟨rfl, hy⟩
        replace K := Lib.hid (K.out.trans (hy.mono K.out.size))
        replace HT := Lib.hid (HT.out.below hy)
        replace TB := Lib.hid (TB.out.below hy TB.out.lt)
        replace FB := Lib.hid (FB.out.below hy FB.out.lt)
        replace FK := Lib.hid (FK.out.below hy FK.out.lt)
        replace BT := Lib.hid (BT.out.below hy BT.out.lt)
        replace BK := Lib.hid (BK.out.below hy BK.out.lt)
        replace BF := Lib.hid (BF.out.below hy BF.out.lt)
        replace RP := Lib.hid (RP.out.below hy RP.out.lt)
        replace RC := Lib.hid (RC.out.below hy RC.out.lt)
        replace RB := Lib.hid (RB.out.below hy RB.out.lt)
        replace PX := Lib.hid (PX.out.below hy PX.out.lt)
        replace HB := Lib.hid (HB.out.trans (hy.mono HB.out.size))
        replace KB := Lib.hid (KB.out.trans (hy.mono KB.out.size))
        replace X := Lib.hid (X.out.below hy X.out.lt)
        clear hy
        refine hK.out _ _ ⟨BT.out, PX.out, TB.out⟩ (fun _ => ?_)
        clear hK KK
        try simp only [Act.put, tS1, tS2, tS3]
        refine tkA 6 (?_) ?_ ⟨BT.out, PX.out, TB.out⟩ ?_
        rotate_left
        · (intro w1 hS; go_simp; try with_reducible rfl)
        simp only [Act.put, tS1, tS2, tS3]
        refine tkA 7 (?_) ?_ ⟨BT.out, PX.out, TB.out⟩ ?_
        rotate_left
        · (intro w1 hS; go_simp; try with_reducible rfl)
        simp only [Act.put, tS1, tS2, tS3]
        refine tkA 8 (?_) ?_ ⟨BT.out, PX.out, TB.out⟩ ?_
        rotate_left
        · (intro w1 hS; go_simp; try with_reducible rfl)
        simp only [Act.put, tS1, tS2, tS3]
        refine tkO 10 (fun KK hK => ?_)
        rw [if_pos (by rfl)]
        refine wp_blk_store 84 (.tmp 10) (.tmp 26) rfl s.cs rfl rfl X.out SY.out SI.out SA.out ?_
        intro Y3h3 hA hF hB
        replace K := Lib.hid (K.out.trans (hB _ (by omega)))
        replace HT := Lib.hid (HT.out.belowB (hB (w.heap.size) (by omega)) (by omega))
        replace TB := Lib.hid (show Blk _ _ _ _ from (hF _ (by omega)).trans TB.out)
        replace FB := Lib.hid (show Blk _ _ _ _ from (hF _ (by omega)).trans FB.out)
        replace FK := Lib.hid (show Blk _ _ _ _ from (hF _ (by omega)).trans FK.out)
        replace BT := Lib.hid (show Blk _ _ _ _ from (hF _ (by omega)).trans BT.out)
        replace BK := Lib.hid (show Blk _ _ _ _ from (hF _ (by omega)).trans BK.out)
        replace BF := Lib.hid (show Blk _ _ _ _ from (hF _ (by omega)).trans BF.out)
        replace RP := Lib.hid (show Blk _ _ _ _ from (hF _ (by omega)).trans RP.out)
        replace RC := Lib.hid (show Blk _ _ _ _ from (hF _ (by omega)).trans RC.out)
        replace RB := Lib.hid (show Blk _ _ _ _ from (hF _ (by omega)).trans RB.out)
        replace PX := Lib.hid (show Blk _ _ _ _ from (hF _ (by omega)).trans PX.out)
        replace HB := Lib.hid (HB.out.trans (hB _ (by omega)))
        replace KB := Lib.hid (KB.out.trans (hB _ (by omega)))
        replace X := Lib.hid hA
        clear hA hF hB
        refine hK.out _ _ ⟨BT.out, PX.out, TB.out⟩ (fun _ => ?_)
        clear hK KK
        try simp only [Act.put]
        refine tkA 11 (?_) ?_ ⟨BT.out, PX.out, TB.out⟩ ?_
        rotate_left
        · (intro w1 hS; go_simp; try with_reducible rfl)
        simp only [Act.put, tS1, tS2, tS3]
        refine wpAnyH_done (by kernel_rfl) ?_ _
        have c5 := BF.out.cell 0
        have L31 : (loadVar 84 ⟨gX, 0, none⟩).run Try.prog Y3h3 = .ok (.agg s.cs) Y3h3 := run_blk_load (P := Try.prog) 84 gX _ X.out Try.underlying84 rfl SI.out
        replace L31 := Lib.hid L31
        gi_wp2_with ((with_reducible refine wpListIn_load_want (op := ⟨some 31, .load 84 (.tmp 10), _, _, _, _⟩) ?wg1 84 (.tmp 10) ?wo1 ⟨gX, 0, none⟩ ?wx1 (.agg s.cs) L31.out ?_); (case wg1 => rfl); (case wo1 => rfl); (case wx1 => rfl))
        refine ⟨trivial, ?_⟩
        refine (CallsIn.inRound l (callsIn_wide.2 (CQs.out Y3h3 FK.out))).mono ?_
        rintro e Vc ⟨rfl, hy⟩
        clear L31 c5
        replace K := Lib.hid (K.out.trans (hy.mono K.out.size))
        replace HT := Lib.hid (HT.out.below hy)
        replace TB := Lib.hid (TB.out.below hy TB.out.lt)
        replace FB := Lib.hid (FB.out.below hy FB.out.lt)
        replace FK := Lib.hid (FK.out.below hy FK.out.lt)
        replace BT := Lib.hid (BT.out.below hy BT.out.lt)
        replace BK := Lib.hid (BK.out.below hy BK.out.lt)
        replace BF := Lib.hid (BF.out.below hy BF.out.lt)
        replace RP := Lib.hid (RP.out.below hy RP.out.lt)
        replace RC := Lib.hid (RC.out.below hy RC.out.lt)
        replace RB := Lib.hid (RB.out.below hy RB.out.lt)
        replace PX := Lib.hid (PX.out.below hy PX.out.lt)
        replace HB := Lib.hid (HB.out.trans (hy.mono HB.out.size))
        replace KB := Lib.hid (KB.out.trans (hy.mono KB.out.size))
        replace X := Lib.hid (X.out.below hy X.out.lt)
        clear hy
        cases hq : qf s with
        | false =>
          gi_wp2
          have hr := HB.out
          exact ⟨keepsF_below KB.out, Kept.below KB.out (fun k hk => by rcases hk with rfl | rfl | rfl <;> omega), HB.out, HX0.out hq⟩
        | true =>
          have HX := Lib.hid (HX1.out hq)
          clear hq HX0 HX1 CQs CGx
          have KF := Lib.hid (keepsF_below (b := Y1h1.heap.size) KB.out)
          clear KB HB BT TB FB FK
          gi_wp2_with fail
          have IX0 := IPX.out
          have PY : Hid ((pcP x).size = (#[Value.int .i64 0, .int .i64 0] : Array Value).size) := rfl
          have PA : Hid ((pcP x).all (·.oneCell') = true) := pcP_all x
          have CY : Hid (s.ce.size = zCe.size) := rfl
          have CI : Hid ((Try.prog.info? 46).map (·.size) = some s.ce.size) := i46c
          have CA : Hid (s.ce.all (·.oneCell') = true) := ceC_all _ _ _ _
          have CI2 : Hid ((Try.prog.info? 46).map (·.size) = some s.ce.toList.length) := i46c
          refine wpIn_region_held_round (S := (fun w' : World => Blk w' (bp) 51 (pcP x) ∧ Blk w' (gX) 84 s.cs)) (by kernel_rfl) (by kernel_rfl) (fun ⟨_, _, h⟩ => h) ?_
          have hy : Below Vc.heap.size Vc Vc.drew := (Below.refl _ _).drew
          replace K := Lib.hid (K.out.trans (hy.mono K.out.size))
          replace HT := Lib.hid (HT.out.below hy)
          replace BK := Lib.hid (BK.out.below hy BK.out.lt)
          replace BF := Lib.hid (BF.out.below hy BF.out.lt)
          replace RP := Lib.hid (RP.out.below hy RP.out.lt)
          replace RC := Lib.hid (RC.out.below hy RC.out.lt)
          replace RB := Lib.hid (RB.out.below hy RB.out.lt)
          replace PX := Lib.hid (PX.out.below hy PX.out.lt)
          replace X := Lib.hid (X.out.below hy X.out.lt)
          replace KF := Lib.hid (KF.out.trans (keepsF_below hy))
          clear hy
          generalize Vc.drew = Y5h0 at *
          refine tkA 0 (.agg (pcP x)) ?_ ⟨PX.out, X.out⟩ ?_
          · (intro w1 hS; obtain ⟨hS0, hS1⟩ := hS; exact exec_load 51 (.tmp 9) rfl _ rfl _ (run_blk_load (P := Try.prog) 51 (bp) _ hS0 Try.underlying51 rfl IPX.out))
          simp only [Act.put, tS1, tS2, tS3]
          refine tkA 1 (?_) ?_ ⟨PX.out, X.out⟩ ?_
          rotate_left
          · (intro w1 hS; go_simp; try with_reducible rfl)
          simp only [Act.put, tS1, tS2, tS3]
          refine tkA 2 (.agg s.ce) ?_ ⟨PX.out, X.out⟩ ?_
          · (intro w1 hS; obtain ⟨hS0, hS1⟩ := hS; exact exec_load 46 (.tmp 35) rfl _ rfl _ (by have h := run_part_load (P := Try.prog) 46 37 s.ce.toList _ hS1 SP.out Try.underlying46 rfl CI2.out; rwa [Array.toArray_toList] at h))
          simp only [Act.put, tS1, tS2, tS3]
          refine tkO 3 (fun KK hK => ?_)
          rw [if_pos (by rfl)]
          refine wp_blk_store 51 (.tmp 6) (.tmp 34) rfl (pcP x) rfl rfl RP.out PY.out IPX.out PA.out ?_
          intro Y5h1 hA hF hB
          replace K := Lib.hid (K.out.trans (hB _ (by omega)))
          replace HT := Lib.hid (HT.out.belowB (hB (w.heap.size) (by omega)) (by omega))
          replace BK := Lib.hid (show Blk _ _ _ _ from (hF _ (by omega)).trans BK.out)
          replace BF := Lib.hid (show Blk _ _ _ _ from (hF _ (by omega)).trans BF.out)
          replace RC := Lib.hid (show Blk _ _ _ _ from (hF _ (by omega)).trans RC.out)
          replace RB := Lib.hid (show Blk _ _ _ _ from (hF _ (by omega)).trans RB.out)
          replace PX := Lib.hid (show Blk _ _ _ _ from (hF _ (by omega)).trans PX.out)
          replace X := Lib.hid (show Blk _ _ _ _ from (hF _ (by omega)).trans X.out)
          replace KF := Lib.hid (KF.out.trans (keepsF_store RP.out hF (hB 0 (Nat.zero_le _)).size))
          replace RP := Lib.hid hA
          clear hA hF hB
          refine hK.out _ _ ⟨PX.out, X.out⟩ (fun _ => ?_)
          clear hK KK
          try simp only [Act.put]
          refine tkO 4 (fun KK hK => ?_)
          rw [if_pos (by rfl)]
          refine wp_blk_store 46 (.tmp 7) (.tmp 36) rfl s.ce rfl rfl RC.out CY.out CI.out CA.out ?_
          intro Y5h2 hA hF hB
          replace K := Lib.hid (K.out.trans (hB _ (by omega)))
          replace HT := Lib.hid (HT.out.belowB (hB (w.heap.size) (by omega)) (by omega))
          replace BK := Lib.hid (show Blk _ _ _ _ from (hF _ (by omega)).trans BK.out)
          replace BF := Lib.hid (show Blk _ _ _ _ from (hF _ (by omega)).trans BF.out)
          replace RP := Lib.hid (show Blk _ _ _ _ from (hF _ (by omega)).trans RP.out)
          replace RB := Lib.hid (show Blk _ _ _ _ from (hF _ (by omega)).trans RB.out)
          replace PX := Lib.hid (show Blk _ _ _ _ from (hF _ (by omega)).trans PX.out)
          replace X := Lib.hid (show Blk _ _ _ _ from (hF _ (by omega)).trans X.out)
          replace KF := Lib.hid (KF.out.trans (keepsF_store RC.out hF (hB 0 (Nat.zero_le _)).size))
          replace RC := Lib.hid hA
          clear hA hF hB
          refine hK.out _ _ ⟨PX.out, X.out⟩ (fun _ => ?_)
          clear hK KK
          try simp only [Act.put]
          refine tkO 5 (fun KK hK => ?_)
          have k1 : Y5h2.cell? ⟨w.heap.size + 1 + 1 + 1 + 1 + 1, 0, none⟩ = some (.bool false) := RB.out.cell 0
          have k2 := RB.out.frozen 0
          go_simp
          replace K := Lib.hid (K.out.setCell (p := ⟨w.heap.size + 1 + 1 + 1 + 1 + 1, 0, none⟩) (by show _ ≤ w.heap.size + 1 + 1 + 1 + 1 + 1; omega) (.bool true))
          replace HT := Lib.hid (HT.out.belowB (((Below.refl (w.heap.size) Y5h2).setCell (p := ⟨w.heap.size + 1 + 1 + 1 + 1 + 1, 0, none⟩) (by show _ ≤ w.heap.size + 1 + 1 + 1 + 1 + 1; omega) (.bool true))) (by omega))
          replace BK := Lib.hid (BK.out.far (p := ⟨w.heap.size + 1 + 1 + 1 + 1 + 1, 0, none⟩) (by show _ ≠ w.heap.size + 1 + 1 + 1 + 1 + 1; omega) (.bool true))
          replace BF := Lib.hid (BF.out.far (p := ⟨w.heap.size + 1 + 1 + 1 + 1 + 1, 0, none⟩) (by show _ ≠ w.heap.size + 1 + 1 + 1 + 1 + 1; omega) (.bool true))
          replace RP := Lib.hid (RP.out.far (p := ⟨w.heap.size + 1 + 1 + 1 + 1 + 1, 0, none⟩) (by show _ ≠ w.heap.size + 1 + 1 + 1 + 1 + 1; omega) (.bool true))
          replace RC := Lib.hid (RC.out.far (p := ⟨w.heap.size + 1 + 1 + 1 + 1 + 1, 0, none⟩) (by show _ ≠ w.heap.size + 1 + 1 + 1 + 1 + 1; omega) (.bool true))
          replace PX := Lib.hid (PX.out.far (p := ⟨w.heap.size + 1 + 1 + 1 + 1 + 1, 0, none⟩) (by show _ ≠ w.heap.size + 1 + 1 + 1 + 1 + 1; omega) (.bool true))
          replace X := Lib.hid (X.out.far (p := ⟨w.heap.size + 1 + 1 + 1 + 1 + 1, 0, none⟩) (by show _ ≠ w.heap.size + 1 + 1 + 1 + 1 + 1; omega) (.bool true))
          replace KF := Lib.hid (KF.out.trans ((KeepsOthers.setCell Y5h2 ⟨w.heap.size + 1 + 1 + 1 + 1 + 1, 0, none⟩ (.bool true)).from _))
          replace RB := Lib.hid (show Blk _ _ 4 #[.bool true] from RB.out.set_ 0 (.bool true))
          clear k1 k2
          generalize Y5h2.setCell ⟨w.heap.size + 1 + 1 + 1 + 1 + 1, 0, none⟩ (.bool true) = Y5h3 at *
          refine hK.out _ _ ⟨PX.out, X.out⟩ (fun _ => ?_)
          clear hK KK
          try simp only [Act.put]
          refine wpAnyH_done (by kernel_rfl) ?_ _
          gi_wp2
          exact ⟨KF.out, rfl, (x, s), HX.out, RP.out, RC.out, RB.out, K.out⟩
  case done =>
    rintro D ys Wn hD hys ⟨hB, hnone⟩ hK
    subst hys
    subst hact
    have hRB := RB.out.lt
    have HNN := Lib.hid hnone
    have DK := Lib.hid (show Dfr Wn D from hK)
    have hKs := K.out.size
    have HBZ := Lib.hid (belowK_b (n₀ := Y1h1.heap.size) (w := Y1h1) (Nat.le_refl _))
    clear hnone hK CP CPL CG CQ hql HST PF PK
    replace K := Lib.hid (K.out.trans (hB.mono K.out.size))
    replace RP := Lib.hid (RP.out.below hB RP.out.lt)
    replace RC := Lib.hid (RC.out.below hB RC.out.lt)
    replace RB := Lib.hid (RB.out.below hB RB.out.lt)
    clear hB HT TB FB BT BK BF FK
    have hKn := K.out.size
    have ZP : Hid ((#[Value.int .i64 0, .int .i64 0] : Array Value).all (·.oneCell') = true) := pcP_all (0, 0)
    have IP : Hid ((Try.prog.info? 51).map (·.size) = some (#[Value.int .i64 0, .int .i64 0] : Array Value).size) := i51c
    have ZC : Hid (zCe.all (·.oneCell') = true) := ceC_all _ _ _ _
    have IC : Hid ((Try.prog.info? 46).map (·.size) = some zCe.size) := i46c
    go_wp2_with (first | ((with_reducible refine wpList_built3 (op := ⟨some 37, .build 51 #[], _, _, _, _⟩) ?bg5 51 #[] ?bo5 #[] ?bv5 #[.int .i64 0, .int .i64 0] ?bf5 ?_); (case bg5 => rfl); (case bo5 => rfl); (case bv5 => kernel_rfl); (case bf5 => exact bl51)) | ((with_reducible refine wpList_built3 (op := ⟨some 38, .build 46 #[], _, _, _, _⟩) ?bg6 46 #[] ?bo6 #[] ?bv6 zCe ?bf6 ?_); (case bg6 => rfl); (case bo6 => rfl); (case bv6 => kernel_rfl); (case bf6 => exact bl46)) | ((with_reducible refine wpList_blk_store (op := ⟨none, .store 51 (.tmp 6) (.tmp 37), _, _, _, _⟩) ?sg7 51 (.tmp 6) (.tmp 37) ?so7 (w.heap.size + 1 + 1 + 1) #[.int .i64 0, .int .i64 0] ?sx7 ?sy7 RP.out zz51.out IP.out ZP.out ?_); (case sg7 => rfl); (case so7 => rfl); (case sx7 => rfl); (case sy7 => rfl)))
    intro V201 hA hF hB
    replace K := Lib.hid (K.out.trans (hB _ (by omega)))
    replace RC := Lib.hid (show Blk _ _ _ _ from (hF _ (by omega)).trans RC.out)
    replace RB := Lib.hid (show Blk _ _ _ _ from (hF _ (by omega)).trans RB.out)
    replace DK := Lib.hid (show Dfr _ _ from (hF _ (by omega)).trans DK.out)
    replace RP := Lib.hid hA
    clear hA hF hB
    go_wp2_with (((with_reducible refine wpList_blk_store (op := ⟨none, .store 46 (.tmp 7) (.tmp 38), _, _, _, _⟩) ?sg8 46 (.tmp 7) (.tmp 38) ?so8 (w.heap.size + 1 + 1 + 1 + 1) zCe ?sx8 ?sy8 RC.out zz46.out IC.out ZC.out ?_); (case sg8 => rfl); (case so8 => rfl); (case sx8 => rfl); (case sy8 => rfl)))
    intro V202 hA hF hB
    replace K := Lib.hid (K.out.trans (hB _ (by omega)))
    replace RP := Lib.hid (show Blk _ _ _ _ from (hF _ (by omega)).trans RP.out)
    replace RB := Lib.hid (show Blk _ _ _ _ from (hF _ (by omega)).trans RB.out)
    replace DK := Lib.hid (show Dfr _ _ from (hF _ (by omega)).trans DK.out)
    replace RC := Lib.hid hA
    clear hA hF hB
    have k1 : V202.cell? ⟨w.heap.size + 1 + 1 + 1 + 1 + 1, 0, none⟩ = some (.bool false) := RB.out.cell 0
    have k2 := RB.out.frozen 0
    have R2 := Lib.hid (show Blk _ _ 4 #[.bool false] from RB.out.set_ 0 (.bool false))
    have P2 := Lib.hid (RP.out.far (p := ⟨w.heap.size + 1 + 1 + 1 + 1 + 1, 0, none⟩) (by show _ ≠ w.heap.size + 1 + 1 + 1 + 1 + 1; omega) (.bool false))
    have C2 := Lib.hid (RC.out.far (p := ⟨w.heap.size + 1 + 1 + 1 + 1 + 1, 0, none⟩) (by show _ ≠ w.heap.size + 1 + 1 + 1 + 1 + 1; omega) (.bool false))
    have K2 := Lib.hid (K.out.setCell (p := ⟨w.heap.size + 1 + 1 + 1 + 1 + 1, 0, none⟩) (by show w.heap.size ≤ w.heap.size + 1 + 1 + 1 + 1 + 1; omega) (.bool false))
    have D2 : Hid (Dfr (V202.setCell ⟨w.heap.size + 1 + 1 + 1 + 1 + 1, 0, none⟩ (.bool false)) D) := (Below.heap_setCell _ _ _ D (by show D ≠ w.heap.size + 1 + 1 + 1 + 1 + 1; omega)).trans DK.out
    clear DK RB K RP RC
    have DK := D2
    have RB := R2
    have K := K2
    have RP := P2
    have RC := C2
    clear D2 R2 K2 P2 C2
    go_wp2
    refine ⟨by simp, .inl ⟨_, _, rfl, run_takeDeferred DK.out, ?_⟩⟩
    have hbz := HBZ.out _ D _ (.deferred none) hD DK.out rfl rfl
    have RPz := RP.out.below hbz (by omega)
    have RCz := RC.out.below hbz (by omega)
    have RBz := RB.out.below hbz (by omega)
    have Kz := K.out.trans (hbz.mono hKs)
    exact ⟨_, results_cell3 6 7 8 51 46 4 _ _ _ _ _ _ rfl rfl rfl rfl (run_blk_load (P := Try.prog) 51 _ _ RPz Try.underlying51 rfl IP.out) (run_blk_load (P := Try.prog) 46 _ _ RCz Try.underlying46 rfl IC.out) (load4 RBz), by rw [HNN.out]; rfl, Kz⟩
  case stop =>
    rintro D cd l Wn hD ⟨kk, hkk, hl⟩ ⟨rfl, o, ho, hP, hC, hBb, hKk⟩ hK
    subst hact
    subst hl
    have HNN := Lib.hid (fst1_take f qf L kk o ho)
    have hRB := RB.out.lt
    have hKs := K.out.size
    have DK := Lib.hid (show Dfr Wn D from hK)
    have HBZ := Lib.hid (belowK_b (n₀ := Y1h1.heap.size) (w := Y1h1) (Nat.le_refl _))
    have K := Lib.hid hKk
    have RP := Lib.hid hP
    have RC := Lib.hid hC
    have RB := Lib.hid hBb
    clear ho hK CP CPL CG CQ hql HST PF PK hKk hP hC hBb HT TB FB BT BK BF FK
    gi_wp2
    refine ⟨by simp, .inl ⟨_, _, rfl, run_takeDeferred DK.out, ?_⟩⟩
    have hbz := HBZ.out Wn D _ (.deferred none) hD DK.out rfl rfl
    have RPz := RP.out.below hbz (by omega)
    have RCz := RC.out.below hbz (by omega)
    have RBz := RB.out.below hbz (by omega)
    have Kz := K.out.trans (hbz.mono hKs)
    exact ⟨_, results_cell3 6 7 8 51 46 4 _ _ _ _ _ _ rfl rfl rfl rfl (run_blk_load (P := Try.prog) 51 _ _ RPz Try.underlying51 rfl i51c) (run_blk_load (P := Try.prog) 46 _ _ RCz Try.underlying46 rfl i46c) (load4 RBz), by rw [HNN.out]; rfl, Kz⟩
end Go.Proofs.Ythldpnifodbheaa
