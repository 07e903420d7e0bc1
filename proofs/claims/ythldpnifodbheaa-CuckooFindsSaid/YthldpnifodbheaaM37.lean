/- Texts that the walks of this seat lean on, put together. -/
import Derived.Deep.CutBlock
import Derived.Deep.DeepCutAuto
import Derived.LoopTactic
import Derived.Handy
import Derived.Test.YthldpnifodbheaaTk
import Derived.Test.YthldpnifodbheaaTl
import Derived.Test.YthldpnifodbheaaM36
namespace Go.Proofs.Ythldpnifodbheaa
open Go.RowKit Go.Lib
def dlO (cf : Cf) (c : Nat → Option Se) (k : Fl) : Option (Pl × Se) := fst1 (lkN cf.st.toNat cf.sz.toNat c) (fun s => decide (s.k = k)) (plL cf k)
def dlC (cf : Cf) (c : Nat → Option Se) (k : Fl) : Nat → Option Se := match dlO cf c k with | none => c | some o => ptN cf.st.toNat cf.sz.toNat c o.1 none
theorem grown_store {g : Nat} {A C : World} (hF : ∀ k, k ≠ g → C.heap[k]? = A.heap[k]?) (hB : ∀ b, b ≤ g → Below b A C) : A.grownBy C (some g) :=
  ⟨(hB 0 (Nat.zero_le _)).os, (hB 0 (Nat.zero_le _)).tape, (hB 0 (Nat.zero_le _)).output, (hB 0 (Nat.zero_le _)).size, fun k _ hne => hF k (fun e => hne (by rw [e]))⟩
set_option maxRecDepth 100000 in
set_option maxHeartbeats 4000000 in
theorem delete_any (tn fn B : Nat) (cf : Cf) (c : Nat → Option Se) (hc : cf.Fit) (hok : okC cf = true) (k : Fl) (hk : k.Fit) (w : World) (h : TS tn fn B cf c w) :
    Calls Try.prog 14 #[.pointer (some ⟨tn, 0, none⟩), .agg k.cs] w fun e w' => e = .returned (.tuple #[.agg (rC (dlO cf c k)), .bool (dlO cf c k).isSome]) ∧ TS tn fn B cf (dlC cf c k) w' ∧ Apart B (2 + cf.st.toNat) w w' := by
  have CF := lh (fun W h => find_any tn fn B cf c hc hok k hk W h)
  change Hid (∀ W, _ → Calls _ _ _ _ (fun e w' => e = .returned (.tuple #[.agg (rP (dlO cf c k)), .agg (rC (dlO cf c k)), .bool (dlO cf c k).isSome]) ∧ _)) at CF
  have CE : Hid (∀ (c : Nat → Option Se) (x : Pl) (W : World), GdT B cf.st.toNat cf.sz.toNat c W → Calls Try.prog 31 #[.pointer (some ⟨B + 1, 0, none⟩), .agg (pcP x)] W fun e w' => e = .returned (.bool (lkN cf.st.toNat cf.sz.toNat c x).isSome) ∧ GdT B cf.st.toNat cf.sz.toNat (ptN cf.st.toNat cf.sz.toNat c x none) w' ∧ Apart B (2 + cf.st.toNat) W w') := fun c x W h => freeT_any B cf.st.toNat cf.sz.toNat c (x.1 : Int) (x.2 : Int) W h
  have K := lh (Below.refl w.heap.size w)
  have HT := lh h
  have htw := h.lt
  have hft : fn < tn := by have := h.hF; have := h.hT; omega
  have hbt : B + 2 + cf.st.toNat ≤ tn := h.hT
  obtain ⟨-, T1', -⟩ := tbC_get fn B cf.ev
  have T1 := lh T1'
  have HTT : Hid (∀ c W, TS tn fn B cf c W → Blk W tn 80 (tbC fn B cf.ev)) := fun c W h => h.T
  have IK := lh (fl_ik k hk)
  have HD : Hid (dlC cf c k = match dlO cf c k with | none => c | some o => ptN cf.st.toNat cf.sz.toNat c o.1 none) := rfl
  have ZC : Hid ((Try.prog.info? 46).map (·.size) = some zCe.size) := i46c
  have hz46 := zero46
  generalize dlC cf c k = c' at *
  generalize dlO cf c k = o at *
  generalize k.cs = kc at *
  generalize tbC fn B cf.ev = tc at *
  clear T1' h hk hc hok
  cases o with
  | none =>
    change Hid (∀ W, _ → Calls _ _ _ _ (fun e w' => e = .returned (.tuple #[.agg (pcP ((0, 0) : Pl)), .agg (rC none), .bool false]) ∧ _)) at CF
    have RS : Hid ((pcP ((0, 0) : Pl)).size = (#[Value.int .i64 0, .int .i64 0] : Array Value).size) := rfl
    have RI : Hid ((Try.prog.info? 51).map (·.size) = some (pcP ((0, 0) : Pl)).size) := i51c
    have RA := lh (pcP_all ((0, 0) : Pl))
    have CS := lh (rC_size (none))
    have CI : Hid ((Try.prog.info? 46).map (·.size) = some ((rC none)).size) := by show _ = _; rw [rC_size]; exact i46c
    have CA := lh (rC_all (none))
    show Calls _ _ _ _ (fun e w' => e = .returned (.tuple #[.agg ((rC none)), .bool false]) ∧ _)
    generalize (rC none) = sc at *
    go_enter Try.func14, Try.ntmps14
    have hal := (Below.refl w.heap.size w).alloc (Nat.le_refl _) (.cells kc 42)
    replace K := lh (K.out.trans (hal.mono K.out.size))
    replace HT := lh (HT.out.below hal)
    have BK := lh (Blk.new w 42 kc)
    clear hal
    have hal := (Below.refl (w.alloc (.cells kc 42)).heap.size (w.alloc (.cells kc 42))).alloc (Nat.le_refl _) (.cells zCe 46)
    replace K := lh (K.out.trans (hal.mono K.out.size))
    replace HT := lh (HT.out.below hal)
    replace BK := lh (BK.out.below hal BK.out.lt)
    have R4q := Blk.new (w.alloc (.cells kc 42)) 46 zCe
    simp only [World.size_alloc] at R4q
    have R4 := lh R4q
    clear R4q
    clear hal
    have hr4 := R4.out.lt
    have L1 : (loadVar 42 ⟨w.heap.size, 0, none⟩).run Try.prog ((w.alloc (.cells kc 42)).alloc (.cells zCe 46)) = .ok (.agg kc) ((w.alloc (.cells kc 42)).alloc (.cells zCe 46)) := run_blk_load (P := Try.prog) 42 (w.heap.size) _ BK.out Try.underlying42 rfl IK.out
    replace L1 := lh L1
    go_wp2_with (((with_reducible refine wpList_load_want (op := ⟨some 11, .load 42 (.tmp 3), _, _, _, _⟩) ?wg1 42 (.tmp 3) ?wo1 ⟨w.heap.size, 0, none⟩ ?wx1 (.agg kc) L1.out ?_); (case wg1 => rfl); (case wo1 => rfl); (case wx1 => rfl)))
    clear L1
    have hzV1 : Hid (((w.alloc (.cells kc 42)).alloc (.cells zCe 46)).heap.size = w.heap.size + 1 + 1) := by show _ = _; simp only [World.size_alloc]
    generalize ((w.alloc (.cells kc 42)).alloc (.cells zCe 46)) = V1 at *
    have hk4 : w.heap.size ≤ w.heap.size + 1 := by omega
    refine (CF.out V1 HT.out).mono ?_
    rintro e V2 ⟨rfl, hy⟩
    replace K := lh (K.out.trans (hy.mono K.out.size))
    replace HT := lh (HT.out.below hy)
    replace BK := lh (BK.out.below hy BK.out.lt)
    replace R4 := lh (R4.out.below hy R4.out.lt)
    have hKV := K.out.size
    have hTV := HT.out.lt
    have hBV := BK.out.lt
    have h4V := R4.out.lt
    clear hy
    have hal := (Below.refl V2.heap.size V2).alloc (Nat.le_refl _) (.cells #[.int .i64 0, .int .i64 0] 51)
    replace K := lh (K.out.trans (hal.mono K.out.size))
    replace HT := lh (HT.out.below hal)
    replace BK := lh (BK.out.below hal BK.out.lt)
    replace R4 := lh (R4.out.below hal R4.out.lt)
    have X6 := lh (Blk.new V2 51 #[.int .i64 0, .int .i64 0])
    clear hal
    have hal := (Below.refl (V2.alloc (.cells #[.int .i64 0, .int .i64 0] 51)).heap.size (V2.alloc (.cells #[.int .i64 0, .int .i64 0] 51))).alloc (Nat.le_refl _) (.cells zCe 46)
    replace K := lh (K.out.trans (hal.mono K.out.size))
    replace HT := lh (HT.out.below hal)
    replace BK := lh (BK.out.below hal BK.out.lt)
    replace R4 := lh (R4.out.below hal R4.out.lt)
    replace X6 := lh (X6.out.below hal X6.out.lt)
    have X7q := Blk.new (V2.alloc (.cells #[.int .i64 0, .int .i64 0] 51)) 46 zCe
    simp only [World.size_alloc] at X7q
    have X7 := lh X7q
    clear X7q
    clear hal
    go_wp2_with (((with_reducible refine wpList_blk_store (op := ⟨none, .store 51 (.tmp 6) (.tmp 13), _, _, _, _⟩) ?sg2 51 (.tmp 6) (.tmp 13) ?so2 (V2.heap.size) (pcP ((0, 0) : Pl)) ?sx2 ?sy2 X6.out RS.out RI.out RA.out ?_); (case sg2 => rfl); (case so2 => rfl); (case sx2 => rfl); (case sy2 => rfl)))
    intro V3 hA hF hB
    replace K := lh (K.out.trans (hB _ (by omega)))
    replace HT := lh (HT.out.belowB (hB (w.heap.size) (by omega)) (by omega))
    replace BK := lh (show Blk _ _ _ _ from (hF _ (by omega)).trans BK.out)
    replace R4 := lh (show Blk _ _ _ _ from (hF _ (by omega)).trans R4.out)
    replace X7 := lh (show Blk _ _ _ _ from (hF _ (by omega)).trans X7.out)
    replace X6 := lh hA
    clear hA hF hB
    go_wp2_with (((with_reducible refine wpList_blk_store (op := ⟨none, .store 46 (.tmp 7) (.tmp 14), _, _, _, _⟩) ?sg3 46 (.tmp 7) (.tmp 14) ?so3 (V2.heap.size + 1) sc ?sx3 ?sy3 X7.out CS.out CI.out CA.out ?_); (case sg3 => rfl); (case so3 => rfl); (case sx3 => rfl); (case sy3 => rfl)))
    intro V4 hA hF hB
    replace K := lh (K.out.trans (hB _ (by omega)))
    replace HT := lh (HT.out.belowB (hB (w.heap.size) (by omega)) (by omega))
    replace BK := lh (show Blk _ _ _ _ from (hF _ (by omega)).trans BK.out)
    replace R4 := lh (show Blk _ _ _ _ from (hF _ (by omega)).trans R4.out)
    replace X6 := lh (show Blk _ _ _ _ from (hF _ (by omega)).trans X6.out)
    replace X7 := lh hA
    clear hA hF hB
    go_upto_region 4 with fail
    have AP := lh (Apart.of_below (B := B) (n := 2 + cf.st.toNat) K.out)
    clear K BK hz46
    have LC := lh (run_blk_load (P := Try.prog) 46 (V2.heap.size + 1) _ X7.out Try.underlying46 rfl CI.out)
    go_wp2_with (first | ((with_reducible refine wpList_load_want (op := ⟨some 23, .load 46 (.tmp 7), _, _, _, _⟩) ?wg1 46 (.tmp 7) ?wo1 ⟨V2.heap.size + 1, 0, none⟩ ?wx1 (.agg sc) LC.out ?_); (case wg1 => rfl); (case wo1 => rfl); (case wx1 => rfl)) | ((with_reducible refine wpList_blk_store (op := ⟨none, .store 46 (.tmp 4) (.tmp 23), _, _, _, _⟩) ?sg 46 (.tmp 4) (.tmp 23) ?so (w.heap.size + 1) sc ?sx ?sy R4.out CS.out CI.out CA.out ?_); (case sg => rfl); (case so => rfl); (case sx => rfl); (case sy => rfl)))
    intro Vz hA hF hB
    have hgr := grown_store hF hB
    have APz := lh (AP.out.grow hgr (fun k e => by cases e; omega))
    have HTz := lh (HT.out.kept (fun j hj => hF j (by omega)))
    have LR := lh (run_blk_load (P := Try.prog) 46 (w.heap.size + 1) _ hA Try.underlying46 rfl CI.out)
    clear hA hF hB hgr AP HT LC X6 X7 R4
    go_wp2
    refine bodyPost_ret (results_cell_tmp 4 46 5 _ _ rfl rfl LR.out) rfl ?_
    exact ⟨rfl, by rw [HD.out]; exact HTz.out, APz.out⟩
  | some o =>
    obtain ⟨p, s⟩ := o
    change Hid (∀ W, _ → Calls _ _ _ _ (fun e w' => e = .returned (.tuple #[.agg (pcP p), .agg (rC (some (p, s))), .bool true]) ∧ _)) at CF
    have RS : Hid ((pcP p).size = (#[Value.int .i64 0, .int .i64 0] : Array Value).size) := rfl
    have RI : Hid ((Try.prog.info? 51).map (·.size) = some (pcP p).size) := i51c
    have RA := lh (pcP_all p)
    have CS := lh (rC_size (some (p, s)))
    have CI : Hid ((Try.prog.info? 46).map (·.size) = some ((rC (some (p, s)))).size) := by show _ = _; rw [rC_size]; exact i46c
    have CA := lh (rC_all (some (p, s)))
    show Calls _ _ _ _ (fun e w' => e = .returned (.tuple #[.agg ((rC (some (p, s)))), .bool true]) ∧ _)
    generalize (rC (some (p, s))) = sc at *
    go_enter Try.func14, Try.ntmps14
    have hal := (Below.refl w.heap.size w).alloc (Nat.le_refl _) (.cells kc 42)
    replace K := lh (K.out.trans (hal.mono K.out.size))
    replace HT := lh (HT.out.below hal)
    have BK := lh (Blk.new w 42 kc)
    clear hal
    have hal := (Below.refl (w.alloc (.cells kc 42)).heap.size (w.alloc (.cells kc 42))).alloc (Nat.le_refl _) (.cells zCe 46)
    replace K := lh (K.out.trans (hal.mono K.out.size))
    replace HT := lh (HT.out.below hal)
    replace BK := lh (BK.out.below hal BK.out.lt)
    have R4q := Blk.new (w.alloc (.cells kc 42)) 46 zCe
    simp only [World.size_alloc] at R4q
    have R4 := lh R4q
    clear R4q
    clear hal
    have hr4 := R4.out.lt
    have L4 : (loadVar 42 ⟨w.heap.size, 0, none⟩).run Try.prog ((w.alloc (.cells kc 42)).alloc (.cells zCe 46)) = .ok (.agg kc) ((w.alloc (.cells kc 42)).alloc (.cells zCe 46)) := run_blk_load (P := Try.prog) 42 (w.heap.size) _ BK.out Try.underlying42 rfl IK.out
    replace L4 := lh L4
    go_wp2_with (((with_reducible refine wpList_load_want (op := ⟨some 11, .load 42 (.tmp 3), _, _, _, _⟩) ?wg4 42 (.tmp 3) ?wo4 ⟨w.heap.size, 0, none⟩ ?wx4 (.agg kc) L4.out ?_); (case wg4 => rfl); (case wo4 => rfl); (case wx4 => rfl)))
    clear L4
    have hzV1 : Hid (((w.alloc (.cells kc 42)).alloc (.cells zCe 46)).heap.size = w.heap.size + 1 + 1) := by show _ = _; simp only [World.size_alloc]
    generalize ((w.alloc (.cells kc 42)).alloc (.cells zCe 46)) = V1 at *
    have hk4 : w.heap.size ≤ w.heap.size + 1 := by omega
    refine (CF.out V1 HT.out).mono ?_
    rintro e V2 ⟨rfl, hy⟩
    replace K := lh (K.out.trans (hy.mono K.out.size))
    replace HT := lh (HT.out.below hy)
    replace BK := lh (BK.out.below hy BK.out.lt)
    replace R4 := lh (R4.out.below hy R4.out.lt)
    have hKV := K.out.size
    have hTV := HT.out.lt
    have hBV := BK.out.lt
    have h4V := R4.out.lt
    clear hy
    have hal := (Below.refl V2.heap.size V2).alloc (Nat.le_refl _) (.cells #[.int .i64 0, .int .i64 0] 51)
    replace K := lh (K.out.trans (hal.mono K.out.size))
    replace HT := lh (HT.out.below hal)
    replace BK := lh (BK.out.below hal BK.out.lt)
    replace R4 := lh (R4.out.below hal R4.out.lt)
    have X6 := lh (Blk.new V2 51 #[.int .i64 0, .int .i64 0])
    clear hal
    have hal := (Below.refl (V2.alloc (.cells #[.int .i64 0, .int .i64 0] 51)).heap.size (V2.alloc (.cells #[.int .i64 0, .int .i64 0] 51))).alloc (Nat.le_refl _) (.cells zCe 46)
    replace K := lh (K.out.trans (hal.mono K.out.size))
    replace HT := lh (HT.out.below hal)
    replace BK := lh (BK.out.below hal BK.out.lt)
    replace R4 := lh (R4.out.below hal R4.out.lt)
    replace X6 := lh (X6.out.below hal X6.out.lt)
    have X7q := Blk.new (V2.alloc (.cells #[.int .i64 0, .int .i64 0] 51)) 46 zCe
    simp only [World.size_alloc] at X7q
    have X7 := lh X7q
    clear X7q
    clear hal
    go_wp2_with (((with_reducible refine wpList_blk_store (op := ⟨none, .store 51 (.tmp 6) (.tmp 13), _, _, _, _⟩) ?sg5 51 (.tmp 6) (.tmp 13) ?so5 (V2.heap.size) (pcP p) ?sx5 ?sy5 X6.out RS.out RI.out RA.out ?_); (case sg5 => rfl); (case so5 => rfl); (case sx5 => rfl); (case sy5 => rfl)))
    intro V3 hA hF hB
    replace K := lh (K.out.trans (hB _ (by omega)))
    replace HT := lh (HT.out.belowB (hB (w.heap.size) (by omega)) (by omega))
    replace BK := lh (show Blk _ _ _ _ from (hF _ (by omega)).trans BK.out)
    replace R4 := lh (show Blk _ _ _ _ from (hF _ (by omega)).trans R4.out)
    replace X7 := lh (show Blk _ _ _ _ from (hF _ (by omega)).trans X7.out)
    replace X6 := lh hA
    clear hA hF hB
    go_wp2_with (((with_reducible refine wpList_blk_store (op := ⟨none, .store 46 (.tmp 7) (.tmp 14), _, _, _, _⟩) ?sg6 46 (.tmp 7) (.tmp 14) ?so6 (V2.heap.size + 1) sc ?sx6 ?sy6 X7.out CS.out CI.out CA.out ?_); (case sg6 => rfl); (case so6 => rfl); (case sx6 => rfl); (case sy6 => rfl)))
    intro V4 hA hF hB
    replace K := lh (K.out.trans (hB _ (by omega)))
    replace HT := lh (HT.out.belowB (hB (w.heap.size) (by omega)) (by omega))
    replace BK := lh (show Blk _ _ _ _ from (hF _ (by omega)).trans BK.out)
    replace R4 := lh (show Blk _ _ _ _ from (hF _ (by omega)).trans R4.out)
    replace X6 := lh (show Blk _ _ _ _ from (hF _ (by omega)).trans X6.out)
    replace X7 := lh hA
    clear hA hF hB
    go_upto_region 3 with fail
    have TB := lh (HTT.out _ _ HT.out)
    have AP := lh (Apart.of_below (B := B) (n := 2 + cf.st.toNat) K.out)
    clear K BK hz46
    refine wp_region_held_last (n := 5) (S := (fun w' : World => Blk w' (tn) 80 tc ∧ Blk w' (V2.heap.size) 51 (pcP p))) (by kernel_rfl) (by kernel_rfl) ?_
    simp only [List.pop_toArray, List.dropLast_cons_cons, List.dropLast_singleton]
    change wpAnyH _ _ _ _ _ _ _ _ V4.drew
    have hy : Below V4.heap.size V4 V4.drew := (Below.refl _ _).drew
    replace AP := lh (AP.out.trans (.of_below hy))
    replace HT := lh (HT.out.below hy)
    replace R4 := lh (R4.out.below hy R4.out.lt)
    replace X6 := lh (X6.out.below hy X6.out.lt)
    replace X7 := lh (X7.out.below hy X7.out.lt)
    replace TB := lh (TB.out.below hy TB.out.lt)
    clear hy
    generalize V4.drew = Y3h0 at *
    refine tkA 0 (?_) ?_ ⟨TB.out, X6.out⟩ ?_
    rotate_left
    · (intro w1 hS; go_simp; try with_reducible rfl)
    simp only [Act.put, tS1, tS2, tS3]
    refine tkA 1 (?_) ?_ ⟨TB.out, X6.out⟩ ?_
    rotate_left
    · (intro w1 hS; go_simp; try with_reducible rfl)
    simp only [Act.put, tS1, tS2, tS3]
    refine tkA 2 (?_) ?_ ⟨TB.out, X6.out⟩ ?_
    rotate_left
    · (intro w1 hS; go_simp; try with_reducible rfl)
    simp only [Act.put, tS1, tS2, tS3]
    refine tkA 3 (?_) ?_ ⟨TB.out, X6.out⟩ ?_
    rotate_left
    · (intro w1 hS; obtain ⟨hS0, hS1⟩ := hS; have q := (hS0.cell 1).trans T1.out; go_simp; try with_reducible rfl)
    simp only [Act.put, tS1, tS2, tS3]
    refine tkA 4 (.agg (pcP p)) ?_ ⟨TB.out, X6.out⟩ ?_
    · (intro w1 hS; obtain ⟨hS0, hS1⟩ := hS; exact exec_load 51 (.tmp 6) rfl _ rfl _ (run_blk_load (P := Try.prog) 51 (V2.heap.size) _ hS1 Try.underlying51 rfl RI.out))
    simp only [Act.put, tS1, tS2, tS3]
    refine wpAnyH_done (by kernel_rfl) ?_ _
    refine op_last ?_
    go_simp
    refine (CE.out _ _ Y3h0 HT.out.G).mono ?_
    rintro e Y3h1 ⟨rfl, hg, ha⟩
    replace HT := lh (HT.out.put hg ha)
    replace R4 := lh (ha.blk R4.out (by omega))
    replace X6 := lh (ha.blk X6.out (by omega))
    replace X7 := lh (ha.blk X7.out (by omega))
    replace AP := lh (AP.out.trans ha)
    replace TB := lh (ha.blk TB.out (by omega))
    clear hg ha TB
    have LC := lh (run_blk_load (P := Try.prog) 46 (V2.heap.size + 1) _ X7.out Try.underlying46 rfl CI.out)
    go_wp2_with (first | ((with_reducible refine wpList_load_want (op := ⟨some 23, .load 46 (.tmp 7), _, _, _, _⟩) ?wg1 46 (.tmp 7) ?wo1 ⟨V2.heap.size + 1, 0, none⟩ ?wx1 (.agg sc) LC.out ?_); (case wg1 => rfl); (case wo1 => rfl); (case wx1 => rfl)) | ((with_reducible refine wpList_blk_store (op := ⟨none, .store 46 (.tmp 4) (.tmp 23), _, _, _, _⟩) ?sg 46 (.tmp 4) (.tmp 23) ?so (w.heap.size + 1) sc ?sx ?sy R4.out CS.out CI.out CA.out ?_); (case sg => rfl); (case so => rfl); (case sx => rfl); (case sy => rfl)))
    intro Vz hA hF hB
    have hgr := grown_store hF hB
    have APz := lh (AP.out.grow hgr (fun k e => by cases e; omega))
    have HTz := lh (HT.out.kept (fun j hj => hF j (by omega)))
    have LR := lh (run_blk_load (P := Try.prog) 46 (w.heap.size + 1) _ hA Try.underlying46 rfl CI.out)
    clear hA hF hB hgr AP HT LC X6 X7 R4
    go_wp2
    refine bodyPost_ret (results_cell_tmp 4 46 5 _ _ rfl rfl LR.out) rfl ?_
    exact ⟨rfl, by rw [HD.out]; exact HTz.out, APz.out⟩
end Go.Proofs.Ythldpnifodbheaa
