/- Texts that the walks of this seat lean on, put together. -/
import Derived.Test.YthkaadcgiplolaaDoorTk
import Derived.Test.YthkaadcgiplolaaDoorM38
import Derived.Test.YthkaadcgiplolaaDoorM40
import Derived.Test.YthkaadcgiplolaaDoorM41
namespace Go.Proofs.YthkaadcgiplolaaDoor
open Go.RowKit Go.Lib
set_option maxRecDepth 100000 in
set_option maxHeartbeats 8000000 in
theorem tells_long (a b : Fl) (ha : a.Fit) (hb : b.Fit) (x : Value) (zs : List Nat) (w : World) (hE : Env w) (h : Rd w x (nus .u8 zs)) (hl : 60 < zs.length) :
    Calls Tryd.prog 3 #[.agg a.cs, .agg b.cs, x] w fun e w' => e = .returned (.bool true) ∧ Below w.heap.size w w' := by
  have K := Lib.hid (Below.refl w.heap.size w)
  have HE := Lib.hid hE
  have HR := Lib.hid h
  have IK := Lib.hid (fl_ik a ha)
  have IKb := Lib.hid (fl_ik b hb)
  obtain ⟨ad, cap, rfl, hlc, hlm⟩ := rd_shape h
  generalize zs.length = n at *
  have g1 : decide (60 < (n : Int)) = true := decide_eq_true (by omega)
  have g2 : 60 < n := hl
  generalize a.cs = kc at *
  generalize b.cs = kcb at *
  clear ha hb h hE hlc hlm
  go_enter Tryd.func3, Tryd.ntmps3
  have hal := (Below.refl w.heap.size w).alloc (Nat.le_refl _) (.cells kc 27)
  replace K := Lib.hid (K.out.trans (hal.mono K.out.size))
  have N := Lib.hid (Blk.new w 27 kc)
  clear hal
  have hal := (Below.refl (w.alloc (.cells kc 27)).heap.size (w.alloc (.cells kc 27))).alloc (Nat.le_refl _) (.cells kcb 27)
  replace K := Lib.hid (K.out.trans (hal.mono K.out.size))
  replace N := Lib.hid (N.out.below hal N.out.lt)
  have Nbq := Blk.new (w.alloc (.cells kc 27)) 27 kcb
  simp only [World.size_alloc] at Nbq
  have Nb := Lib.hid Nbq
  clear Nbq
  clear hal
  go_wp2_with fail
  have hzV1 : Hid (((w.alloc (.cells kc 27)).alloc (.cells kcb 27)).heap.size = w.heap.size + 1 + 1) := by show _ = _; simp only [World.size_alloc]
  generalize ((w.alloc (.cells kc 27)).alloc (.cells kcb 27)) = V1 at *
  refine (awake_any V1 (HE.out.below K.out)).mono ?_
  rintro e V2 ⟨rfl, hy⟩
  replace K := Lib.hid (K.out.trans (hy.mono K.out.size))
  replace N := Lib.hid (N.out.below hy N.out.lt)
  replace Nb := Lib.hid (Nb.out.below hy Nb.out.lt)
  clear hy
  go_wp2
  go_ret
  exact ⟨rfl, K.out⟩
set_option maxRecDepth 100000 in
set_option maxHeartbeats 8000000 in
theorem tells_ok (a b : Fl) (ha : a.Fit) (hb : b.Fit) (x : Value) (zs : List Nat) (w : World) (hE : Env w) (h : Rd w x (nus .u8 zs)) (hbz : ∀ c ∈ zs, c < 256) (hl : zs.length ≤ 60) (ho : okF zs = true) :
    Calls Tryd.prog 3 #[.agg a.cs, .agg b.cs, x] w fun e w' => e = .returned (.bool true) ∧ Below w.heap.size w w' := by
  have K := Lib.hid (Below.refl w.heap.size w)
  have HE := Lib.hid hE
  have HR := Lib.hid h
  have IK := Lib.hid (fl_ik a ha)
  have IKb := Lib.hid (fl_ik b hb)
  obtain ⟨ad, cap, rfl, hlc, hlm⟩ := rd_shape h
  have CF0 := fun W y (h : Rd W y (nus .u8 zs)) => kfrom_any y zs W h hbz
  have CR := Lib.hid (fun W y (h : Rd W y (nus .u8 zs)) => rfrom_any y zs W h hbz)
  rw [ho] at CF0 CR
  have CF := Lib.hid (show ∀ W y, Rd W y (nus .u8 zs) → Calls Tryd.prog 9 #[y] W fun e w' => e = .returned (.tuple #[.agg (fcs zs), .int .i64 0]) ∧ Below W.heap.size W w' from CF0)
  clear CF0
  obtain ⟨kf, hkf, ekf⟩ := fcs_fit zs hbz
  rw [ekf] at CF CR
  have EQ := Lib.hid (fun W => eq_fl_yes kf hkf W)
  have EV := Lib.hid (fun W => eq_vip_yes a a ha ha rfl rfl rfl rfl W)
  have VA := Lib.hid (fun W => kvalid_any a ha W)
  have VB := Lib.hid (fun W => rvalid_any a ha W)
  have B1 := Lib.hid (fun W => kbytes_any a ha W)
  have B2 := Lib.hid (fun W => rbytes_any a ha W)
  have C1 := Lib.hid (fun W => kcmp_any a b ha hb W)
  have C2 := Lib.hid (fun W => rcmp_any a b ha hb W)
  have P1 := Lib.hid (fun W => kvip_any a ha W)
  have P2 := Lib.hid (fun W => rvip_any a ha W)
  have T1 := Lib.hid (fun W hW => ktext_any a ha W hW)
  have T2 := Lib.hid (fun W => rtext_any a ha W)
  have sF := kf.cs_size hkf
  have YF : Hid (kf.cs.size = Array.size (ZcK : Array Value)) := sF
  have QF := Lib.hid (i42.trans (congrArg some sF.symm))
  have AF := Lib.hid kf.cs_all
  generalize cmpN (bK a) (bK b) = cm at *
  generalize bK a = BA at *
  generalize (⟨(tK a).toArray⟩ : ByteArray) = TA at *
  generalize vipc a = vc at *
  generalize vK a = va at *
  generalize kf.cs = kf at *
  generalize a.cs = kc at *
  generalize b.cs = kcb at *
  generalize zs.length = n at *
  have g1 : decide (60 < (n : Int)) = false := decide_eq_false (by omega)
  have g2 : ¬ 60 < n := by omega
  clear ha hb h hE hlc hlm hbz ho ekf hkf sF hl
  go_enter Tryd.func3, Tryd.ntmps3
  have hal := (Below.refl w.heap.size w).alloc (Nat.le_refl _) (.cells kc 27)
  replace K := Lib.hid (K.out.trans (hal.mono K.out.size))
  have N := Lib.hid (Blk.new w 27 kc)
  clear hal
  have hal := (Below.refl (w.alloc (.cells kc 27)).heap.size (w.alloc (.cells kc 27))).alloc (Nat.le_refl _) (.cells kcb 27)
  replace K := Lib.hid (K.out.trans (hal.mono K.out.size))
  replace N := Lib.hid (N.out.below hal N.out.lt)
  have Nbq := Blk.new (w.alloc (.cells kc 27)) 27 kcb
  simp only [World.size_alloc] at Nbq
  have Nb := Lib.hid Nbq
  clear Nbq
  clear hal
  go_wp2_with fail
  have hzV1 : Hid (((w.alloc (.cells kc 27)).alloc (.cells kcb 27)).heap.size = w.heap.size + 1 + 1) := by show _ = _; simp only [World.size_alloc]
  generalize ((w.alloc (.cells kc 27)).alloc (.cells kcb 27)) = V1 at *
  refine (CF.out V1 _ (HR.out.below K.out)).mono ?_
  rintro e V2 ⟨rfl, hy⟩
  replace K := Lib.hid (K.out.trans (hy.mono K.out.size))
  replace N := Lib.hid (N.out.below hy N.out.lt)
  replace Nb := Lib.hid (Nb.out.below hy Nb.out.lt)
  clear hy
  go_wp2_with (((with_reducible refine wpList_blk_store (op := ⟨none, .store 27 (.tmp 7) (.tmp 18), _, _, _, _⟩) ?sg1 27 (.tmp 7) (.tmp 18) ?so1 (V2.heap.size) kf ?sx1 ?sy1 (Blk.new V2 27 ZcK) YF.out QF.out AF.out ?_); (case sg1 => rfl); (case so1 => rfl); (case sx1 => rfl); (case sy1 => rfl)))
  have qNNX : w.heap.size < V2.heap.size := N.out.lt
  have qNbNX : w.heap.size + 1 < V2.heap.size := Nb.out.lt
  intro V3 hA hF hB
  have hy := ((Below.refl V2.heap.size V2).alloc (Nat.le_refl _) (.cells ZcK 27)).trans (hB _ (Nat.le_refl _))
  replace K := Lib.hid (K.out.trans (hy.mono K.out.size))
  replace N := Lib.hid (N.out.below hy N.out.lt)
  replace Nb := Lib.hid (Nb.out.below hy Nb.out.lt)
  have NX := Lib.hid hA
  clear hA hF hB hy
  go_wp2_with fail
  refine (CR.out V3 _ (HR.out.below K.out)).mono ?_
  rintro e V4 ⟨rfl, hy⟩
  replace K := Lib.hid (K.out.trans (hy.mono K.out.size))
  replace N := Lib.hid (N.out.below hy N.out.lt)
  replace Nb := Lib.hid (Nb.out.below hy Nb.out.lt)
  replace NX := Lib.hid (NX.out.below hy NX.out.lt)
  clear hy
  go_wp2_with (((with_reducible refine wpList_blk_store (op := ⟨none, .store 27 (.tmp 9) (.tmp 23), _, _, _, _⟩) ?sg2 27 (.tmp 9) (.tmp 23) ?so2 (V4.heap.size) kf ?sx2 ?sy2 (Blk.new V4 27 ZcK) YF.out QF.out AF.out ?_); (case sg2 => rfl); (case so2 => rfl); (case sx2 => rfl); (case sy2 => rfl)))
  have qNNY : w.heap.size < V4.heap.size := N.out.lt
  have qNbNY : w.heap.size + 1 < V4.heap.size := Nb.out.lt
  have qNXNY : V2.heap.size < V4.heap.size := NX.out.lt
  intro V5 hA hF hB
  have hy := ((Below.refl V4.heap.size V4).alloc (Nat.le_refl _) (.cells ZcK 27)).trans (hB _ (Nat.le_refl _))
  replace K := Lib.hid (K.out.trans (hy.mono K.out.size))
  replace N := Lib.hid (N.out.below hy N.out.lt)
  replace Nb := Lib.hid (Nb.out.below hy Nb.out.lt)
  replace NX := Lib.hid (NX.out.below hy NX.out.lt)
  have NY := Lib.hid hA
  clear hA hF hB hy
  go_wp2_with fail
  refine wp_region_held (S := (fun w' : World => Below (V5.heap.size) V5 w')) (by kernel_rfl) ?_
  change wpAnyH _ _ _ _ _ _ _ _ V5.drew
  have hy : Below V5.heap.size V5 V5.drew := (Below.refl _ _).drew
  have hE0 : Below (V5.heap.size) V5 V5.drew := (Below.refl _ _).drew
  clear hy
  generalize V5.drew = Y5x0 at hE0  ⊢
  have E0 := Lib.hid hE0
  clear hE0
  refine tkA 0 (.agg kc) ?_ E0.out ?_
  · (intro w1 hS; have hW := hS; exact exec_load 27 (.tmp 3) rfl _ rfl _ (run_blk_load (P := Tryd.prog) 27 (w.heap.size) _ (N.out.below hW N.out.lt) Tryd.underlying27 rfl IK.out))
  simp only [Act.put, tS1, tS2, tS3]
  refine tkA 2 (.agg kc) ?_ E0.out ?_
  · (intro w1 hS; have hW := hS; exact exec_load 27 (.tmp 3) rfl _ rfl _ (run_blk_load (P := Tryd.prog) 27 (w.heap.size) _ (N.out.below hW N.out.lt) Tryd.underlying27 rfl IK.out))
  simp only [Act.put, tS1, tS2, tS3]
  refine tkO 1 (fun KK hK => ?_)
  go_simp
  refine (VA.out Y5x0).mono ?_
  rintro e Y5x1 ⟨rfl, hy⟩
  have E1 := Lib.hid (E0.out.trans (hy.mono E0.out.size))
  have C1 := Lib.hid E1.out
  clear hy E0
  refine hK.out _ _ C1.out (fun _ => ?_)
  clear hK KK
  refine wpAnyH_mono (S' := (fun w' : World => Below Y5x1.heap.size Y5x1 w')) (fun w1 h => C1.out.trans (h.mono C1.out.size)) _ _ _ _ ?_
  clear C1
  try simp only [Act.put, tS1, tS2, tS3]
  refine tkO 3 (fun KK hK => ?_)
  go_simp
  refine (VB.out Y5x1).mono ?_
  rintro e Y5x2 ⟨rfl, hy⟩
  have E2 := Lib.hid (E1.out.trans (hy.mono E1.out.size))
  have C2 := Lib.hid hy
  clear hy E1
  refine hK.out _ _ C2.out (fun _ => ?_)
  clear hK KK
  refine wpAnyH_mono (S' := (fun w' : World => Below Y5x2.heap.size Y5x2 w')) (fun w1 h => C2.out.trans (h.mono C2.out.size)) _ _ _ _ ?_
  clear C2
  try simp only [Act.put, tS1, tS2, tS3]
  refine tkA 4 (?_) ?_ (Below.refl _ _) ?_
  rotate_left
  · (intro w1 hS; go_simp; try with_reducible rfl)
  simp only [Act.put, tS1, tS2, tS3]
  refine tkA 5 (?_) ?_ (Below.refl _ _) ?_
  rotate_left
  · (intro w1 hS; go_simp; try with_reducible rfl)
  simp only [Act.put, tS1, tS2, tS3]
  refine tkA 6 (.agg kc) ?_ (Below.refl _ _) ?_
  · (intro w1 hS; have hW := E2.out.trans (hS.mono E2.out.size); exact exec_load 27 (.tmp 3) rfl _ rfl _ (run_blk_load (P := Tryd.prog) 27 (w.heap.size) _ (N.out.below hW N.out.lt) Tryd.underlying27 rfl IK.out))
  simp only [Act.put, tS1, tS2, tS3]
  refine tkA 9 (.agg kc) ?_ (Below.refl _ _) ?_
  · (intro w1 hS; have hW := E2.out.trans (hS.mono E2.out.size); exact exec_load 27 (.tmp 3) rfl _ rfl _ (run_blk_load (P := Tryd.prog) 27 (w.heap.size) _ (N.out.below hW N.out.lt) Tryd.underlying27 rfl IK.out))
  simp only [Act.put, tS1, tS2, tS3]
  refine tkO 7 (fun KK hK => ?_)
  go_simp
  refine (B1.out Y5x2).mono ?_
  rintro e Y5x3 ⟨x1, rfl, r1, hy⟩
  have E3 := Lib.hid (E2.out.trans (hy.mono E2.out.size))
  have C3 := Lib.hid hy
  have R1 := Lib.hid (r1)
  clear r1
  clear hy E2
  refine hK.out _ _ C3.out (fun _ => ?_)
  clear hK KK
  refine wpAnyH_mono (S' := (fun w' : World => Below Y5x3.heap.size Y5x3 w')) (fun w1 h => C3.out.trans (h.mono C3.out.size)) _ _ _ _ ?_
  clear C3
  try simp only [Act.put, tS1, tS2, tS3]
  refine tkA 8 (?_) ?_ (Below.refl _ _) ?_
  rotate_left
  · (intro w1 hS; have hW := E3.out.trans (hS.mono E3.out.size); have q := conv_rd (P := Tryd.prog) w1 28 9 5 Tryd.underlying28 Tryd.underlying5 Tryd.underlying9 _ _ (R1.out.below hS); clear hW hS; go_simp; try with_reducible rfl)
  simp only [Act.put, tS1, tS2, tS3]
  refine tkO 10 (fun KK hK => ?_)
  go_simp
  refine (B2.out Y5x3).mono ?_
  rintro e Y5x4 ⟨x2, rfl, r2, hy⟩
  replace R1 := Lib.hid (R1.out.below hy)
  have E4 := Lib.hid (E3.out.trans (hy.mono E3.out.size))
  have C4 := Lib.hid hy
  have R2 := Lib.hid (r2)
  clear r2
  clear hy E3
  refine hK.out _ _ C4.out (fun _ => ?_)
  clear hK KK
  refine wpAnyH_mono (S' := (fun w' : World => Below Y5x4.heap.size Y5x4 w')) (fun w1 h => C4.out.trans (h.mono C4.out.size)) _ _ _ _ ?_
  clear C4
  try simp only [Act.put, tS1, tS2, tS3]
  refine tkA 11 (?_) ?_ (Below.refl _ _) ?_
  rotate_left
  · (intro w1 hS; have hW := E4.out.trans (hS.mono E4.out.size); have q := conv_rd (P := Tryd.prog) w1 28 9 5 Tryd.underlying28 Tryd.underlying5 Tryd.underlying9 _ _ (R2.out.below hS); clear hW hS; go_simp; try with_reducible rfl)
  simp only [Act.put, tS1, tS2, tS3]
  refine tkA 12 (?_) ?_ (Below.refl _ _) ?_
  rotate_left
  · (intro w1 hS; go_simp; try with_reducible rfl)
  simp only [Act.put, tS1, tS2, tS3]
  refine tkA 13 (?_) ?_ (Below.refl _ _) ?_
  rotate_left
  · (intro w1 hS; go_simp; try with_reducible rfl)
  simp only [Act.put, tS1, tS2, tS3]
  refine tkA 14 (?_) ?_ (Below.refl _ _) ?_
  rotate_left
  · (intro w1 hS; go_simp; try with_reducible rfl)
  simp only [Act.put, tS1, tS2, tS3]
  refine tkA 15 (.agg kf) ?_ (Below.refl _ _) ?_
  · (intro w1 hS; have hW := E4.out.trans (hS.mono E4.out.size); exact exec_load 27 (.tmp 7) rfl _ rfl _ (run_blk_load (P := Tryd.prog) 27 (V2.heap.size) _ (NX.out.below hW NX.out.lt) Tryd.underlying27 rfl QF.out))
  simp only [Act.put, tS1, tS2, tS3]
  refine tkA 16 (.agg kf) ?_ (Below.refl _ _) ?_
  · (intro w1 hS; have hW := E4.out.trans (hS.mono E4.out.size); exact exec_load 27 (.tmp 9) rfl _ rfl _ (run_blk_load (P := Tryd.prog) 27 (V4.heap.size) _ (NY.out.below hW NY.out.lt) Tryd.underlying27 rfl QF.out))
  simp only [Act.put, tS1, tS2, tS3]
  refine tkA 17 (?_) ?_ (Below.refl _ _) ?_
  rotate_left
  · (intro w1 hS; have hW := E4.out.trans (hS.mono E4.out.size); have q := EQ.out; clear hW hS; go_simp; try with_reducible rfl)
  simp only [Act.put, tS1, tS2, tS3]
  refine tkA 18 (?_) ?_ (Below.refl _ _) ?_
  rotate_left
  · (intro w1 hS; go_simp; try with_reducible rfl)
  simp only [Act.put, tS1, tS2, tS3]
  refine tkA 19 (?_) ?_ (Below.refl _ _) ?_
  rotate_left
  · (intro w1 hS; go_simp; try with_reducible rfl)
  simp only [Act.put, tS1, tS2, tS3]
  refine tkA 20 (?_) ?_ (Below.refl _ _) ?_
  rotate_left
  · (intro w1 hS; go_simp; try with_reducible rfl)
  simp only [Act.put, tS1, tS2, tS3]
  refine tkA 21 (?_) ?_ (Below.refl _ _) ?_
  rotate_left
  · (intro w1 hS; go_simp; try with_reducible rfl)
  simp only [Act.put, tS1, tS2, tS3]
  refine tkA 22 (?_) ?_ (Below.refl _ _) ?_
  rotate_left
  · (intro w1 hS; go_simp; try with_reducible rfl)
  simp only [Act.put, tS1, tS2, tS3]
  refine tkA 23 (?_) ?_ (Below.refl _ _) ?_
  rotate_left
  · (intro w1 hS; go_simp; try with_reducible rfl)
  simp only [Act.put, tS1, tS2, tS3]
  refine tkA 24 (?_) ?_ (Below.refl _ _) ?_
  rotate_left
  · (intro w1 hS; go_simp; try with_reducible rfl)
  simp only [Act.put, tS1, tS2, tS3]
  refine tkA 25 (?_) ?_ (Below.refl _ _) ?_
  rotate_left
  · (intro w1 hS; go_simp; try with_reducible rfl)
  simp only [Act.put, tS1, tS2, tS3]
  refine tkA 26 (?_) ?_ (Below.refl _ _) ?_
  rotate_left
  · (intro w1 hS; go_simp; try with_reducible rfl)
  simp only [Act.put, tS1, tS2, tS3]
  refine tkA 27 (?_) ?_ (Below.refl _ _) ?_
  rotate_left
  · (intro w1 hS; go_simp; try with_reducible rfl)
  simp only [Act.put, tS1, tS2, tS3]
  refine tkN 28 (Below.refl _ _) ?_
  simp only [Act.put, tS1, tS2, tS3]
  refine tkN 29 (Below.refl _ _) ?_
  simp only [Act.put, tS1, tS2, tS3]
  refine tkA 30 (?_) ?_ (Below.refl _ _) ?_
  rotate_left
  · (intro w1 hS; go_simp; try with_reducible rfl)
  simp only [Act.put, tS1, tS2, tS3]
  refine tkA 31 (?_) ?_ (Below.refl _ _) ?_
  rotate_left
  · (intro w1 hS; go_simp; try with_reducible rfl)
  simp only [Act.put, tS1, tS2, tS3]
  refine tkA 32 (?_) ?_ (Below.refl _ _) ?_
  rotate_left
  · (intro w1 hS; go_simp; try with_reducible rfl)
  simp only [Act.put, tS1, tS2, tS3]
  refine tkA 33 (.agg kc) ?_ (Below.refl _ _) ?_
  · (intro w1 hS; have hW := E4.out.trans (hS.mono E4.out.size); exact exec_load 27 (.tmp 3) rfl _ rfl _ (run_blk_load (P := Tryd.prog) 27 (w.heap.size) _ (N.out.below hW N.out.lt) Tryd.underlying27 rfl IK.out))
  simp only [Act.put, tS1, tS2, tS3]
  refine tkA 34 (.agg kcb) ?_ (Below.refl _ _) ?_
  · (intro w1 hS; have hW := E4.out.trans (hS.mono E4.out.size); exact exec_load 27 (.tmp 4) rfl _ rfl _ (run_blk_load (P := Tryd.prog) 27 (w.heap.size + 1) _ (Nb.out.below hW Nb.out.lt) Tryd.underlying27 rfl IKb.out))
  simp only [Act.put, tS1, tS2, tS3]
  refine tkA 36 (.agg kc) ?_ (Below.refl _ _) ?_
  · (intro w1 hS; have hW := E4.out.trans (hS.mono E4.out.size); exact exec_load 27 (.tmp 3) rfl _ rfl _ (run_blk_load (P := Tryd.prog) 27 (w.heap.size) _ (N.out.below hW N.out.lt) Tryd.underlying27 rfl IK.out))
  simp only [Act.put, tS1, tS2, tS3]
  refine tkA 37 (.agg kcb) ?_ (Below.refl _ _) ?_
  · (intro w1 hS; have hW := E4.out.trans (hS.mono E4.out.size); exact exec_load 27 (.tmp 4) rfl _ rfl _ (run_blk_load (P := Tryd.prog) 27 (w.heap.size + 1) _ (Nb.out.below hW Nb.out.lt) Tryd.underlying27 rfl IKb.out))
  simp only [Act.put, tS1, tS2, tS3]
  refine tkO 35 (fun KK hK => ?_)
  go_simp
  refine (C1.out Y5x4).mono ?_
  rintro e Y5x5 ⟨rfl, hy⟩
  replace R1 := Lib.hid (R1.out.below hy)
  replace R2 := Lib.hid (R2.out.below hy)
  have E5 := Lib.hid (E4.out.trans (hy.mono E4.out.size))
  have C5 := Lib.hid hy
  clear hy E4
  refine hK.out _ _ C5.out (fun _ => ?_)
  clear hK KK
  refine wpAnyH_mono (S' := (fun w' : World => Below Y5x5.heap.size Y5x5 w')) (fun w1 h => C5.out.trans (h.mono C5.out.size)) _ _ _ _ ?_
  clear C5
  try simp only [Act.put, tS1, tS2, tS3]
  refine tkO 38 (fun KK hK => ?_)
  go_simp
  refine (C2.out Y5x5).mono ?_
  rintro e Y5x6 ⟨rfl, hy⟩
  replace R1 := Lib.hid (R1.out.below hy)
  replace R2 := Lib.hid (R2.out.below hy)
  have E6 := Lib.hid (E5.out.trans (hy.mono E5.out.size))
  have C6 := Lib.hid hy
  clear hy E5
  refine hK.out _ _ C6.out (fun _ => ?_)
  clear hK KK
  refine wpAnyH_mono (S' := (fun w' : World => Below Y5x6.heap.size Y5x6 w')) (fun w1 h => C6.out.trans (h.mono C6.out.size)) _ _ _ _ ?_
  clear C6
  try simp only [Act.put, tS1, tS2, tS3]
  refine tkA 39 (?_) ?_ (Below.refl _ _) ?_
  rotate_left
  · (intro w1 hS; go_simp; try with_reducible rfl)
  simp only [Act.put, tS1, tS2, tS3]
  refine tkA 40 (?_) ?_ (Below.refl _ _) ?_
  rotate_left
  · (intro w1 hS; go_simp; try with_reducible rfl)
  simp only [Act.put, tS1, tS2, tS3]
  refine tkA 41 (?_) ?_ (Below.refl _ _) ?_
  rotate_left
  · (intro w1 hS; go_simp; try with_reducible rfl)
  simp only [Act.put, tS1, tS2, tS3]
  refine tkA 42 (.agg kc) ?_ (Below.refl _ _) ?_
  · (intro w1 hS; have hW := E6.out.trans (hS.mono E6.out.size); exact exec_load 27 (.tmp 3) rfl _ rfl _ (run_blk_load (P := Tryd.prog) 27 (w.heap.size) _ (N.out.below hW N.out.lt) Tryd.underlying27 rfl IK.out))
  simp only [Act.put, tS1, tS2, tS3]
  refine tkA 44 (.agg kc) ?_ (Below.refl _ _) ?_
  · (intro w1 hS; have hW := E6.out.trans (hS.mono E6.out.size); exact exec_load 27 (.tmp 3) rfl _ rfl _ (run_blk_load (P := Tryd.prog) 27 (w.heap.size) _ (N.out.below hW N.out.lt) Tryd.underlying27 rfl IK.out))
  simp only [Act.put, tS1, tS2, tS3]
  refine tkO 43 (fun KK hK => ?_)
  go_simp
  refine (P1.out Y5x6).mono ?_
  rintro e Y5x7 ⟨rfl, hy⟩
  replace R1 := Lib.hid (R1.out.below hy)
  replace R2 := Lib.hid (R2.out.below hy)
  have E7 := Lib.hid (E6.out.trans (hy.mono E6.out.size))
  have C7 := Lib.hid hy
  clear hy E6
  refine hK.out _ _ C7.out (fun _ => ?_)
  clear hK KK
  refine wpAnyH_mono (S' := (fun w' : World => Below Y5x7.heap.size Y5x7 w')) (fun w1 h => C7.out.trans (h.mono C7.out.size)) _ _ _ _ ?_
  clear C7
  try simp only [Act.put, tS1, tS2, tS3]
  refine tkO 45 (fun KK hK => ?_)
  go_simp
  refine (P2.out Y5x7).mono ?_
  rintro e Y5x8 ⟨rfl, hy⟩
  replace R1 := Lib.hid (R1.out.below hy)
  replace R2 := Lib.hid (R2.out.below hy)
  have E8 := Lib.hid (E7.out.trans (hy.mono E7.out.size))
  have C8 := Lib.hid hy
  clear hy E7
  refine hK.out _ _ C8.out (fun _ => ?_)
  clear hK KK
  refine wpAnyH_mono (S' := (fun w' : World => Below Y5x8.heap.size Y5x8 w')) (fun w1 h => C8.out.trans (h.mono C8.out.size)) _ _ _ _ ?_
  clear C8
  try simp only [Act.put, tS1, tS2, tS3]
  refine tkA 46 (?_) ?_ (Below.refl _ _) ?_
  rotate_left
  · (intro w1 hS; have hW := E8.out.trans (hS.mono E8.out.size); have q := EV.out; clear hW hS; go_simp; try with_reducible rfl)
  simp only [Act.put, tS1, tS2, tS3]
  refine tkA 47 (?_) ?_ (Below.refl _ _) ?_
  rotate_left
  · (intro w1 hS; go_simp; try with_reducible rfl)
  simp only [Act.put, tS1, tS2, tS3]
  refine tkA 48 (?_) ?_ (Below.refl _ _) ?_
  rotate_left
  · (intro w1 hS; go_simp; try with_reducible rfl)
  simp only [Act.put, tS1, tS2, tS3]
  refine tkA 49 (.agg kc) ?_ (Below.refl _ _) ?_
  · (intro w1 hS; have hW := E8.out.trans (hS.mono E8.out.size); exact exec_load 27 (.tmp 3) rfl _ rfl _ (run_blk_load (P := Tryd.prog) 27 (w.heap.size) _ (N.out.below hW N.out.lt) Tryd.underlying27 rfl IK.out))
  simp only [Act.put, tS1, tS2, tS3]
  refine tkA 51 (.agg kc) ?_ (Below.refl _ _) ?_
  · (intro w1 hS; have hW := E8.out.trans (hS.mono E8.out.size); exact exec_load 27 (.tmp 3) rfl _ rfl _ (run_blk_load (P := Tryd.prog) 27 (w.heap.size) _ (N.out.below hW N.out.lt) Tryd.underlying27 rfl IK.out))
  simp only [Act.put, tS1, tS2, tS3]
  refine tkO 50 (fun KK hK => ?_)
  go_simp
  refine (T1.out Y5x8 ((HE.out.below K.out).below E8.out)).mono ?_
  rintro e Y5x9 ⟨rfl, hy⟩
  replace R1 := Lib.hid (R1.out.below hy)
  replace R2 := Lib.hid (R2.out.below hy)
  have E9 := Lib.hid (E8.out.trans (hy.mono E8.out.size))
  have C9 := Lib.hid hy
  clear hy E8
  refine hK.out _ _ C9.out (fun _ => ?_)
  clear hK KK
  refine wpAnyH_mono (S' := (fun w' : World => Below Y5x9.heap.size Y5x9 w')) (fun w1 h => C9.out.trans (h.mono C9.out.size)) _ _ _ _ ?_
  clear C9
  try simp only [Act.put, tS1, tS2, tS3]
  refine tkO 52 (fun KK hK => ?_)
  go_simp
  refine (T2.out Y5x9).mono ?_
  rintro e Y5x10 ⟨rfl, hy⟩
  replace R1 := Lib.hid (R1.out.below hy)
  replace R2 := Lib.hid (R2.out.below hy)
  have E10 := Lib.hid (E9.out.trans (hy.mono E9.out.size))
  have C10 := Lib.hid hy
  clear hy E9
  refine hK.out _ _ C10.out (fun _ => ?_)
  clear hK KK
  refine wpAnyH_mono (S' := (fun w' : World => Below Y5x10.heap.size Y5x10 w')) (fun w1 h => C10.out.trans (h.mono C10.out.size)) _ _ _ _ ?_
  clear C10
  try simp only [Act.put, tS1, tS2, tS3]
  refine tkA 53 (?_) ?_ (Below.refl _ _) ?_
  rotate_left
  · (intro w1 hS; go_simp; try with_reducible rfl)
  simp only [Act.put, tS1, tS2, tS3]
  refine tkA 54 (?_) ?_ (Below.refl _ _) ?_
  rotate_left
  · (intro w1 hS; go_simp; try with_reducible rfl)
  simp only [Act.put, tS1, tS2, tS3]
  refine tkA 55 (?_) ?_ (Below.refl _ _) ?_
  rotate_left
  · (intro w1 hS; go_simp; try with_reducible rfl)
  simp only [Act.put, tS1, tS2, tS3]
  refine tkO 56 (fun KK hK => ?_)
  go_simp
  refine (awake_any Y5x10 ((HE.out.below K.out).below E10.out)).mono ?_
  rintro e Y5x11 ⟨rfl, hy⟩
  replace R1 := Lib.hid (R1.out.below hy)
  replace R2 := Lib.hid (R2.out.below hy)
  have E11 := Lib.hid (E10.out.trans (hy.mono E10.out.size))
  have C11 := Lib.hid hy
  clear hy E10
  refine hK.out _ _ C11.out (fun _ => ?_)
  clear hK KK
  refine wpAnyH_mono (S' := (fun w' : World => Below Y5x11.heap.size Y5x11 w')) (fun w1 h => C11.out.trans (h.mono C11.out.size)) _ _ _ _ ?_
  clear C11
  try simp only [Act.put, tS1, tS2, tS3]
  refine tkA 57 (?_) ?_ (Below.refl _ _) ?_
  rotate_left
  · (intro w1 hS; go_simp; try with_reducible rfl)
  simp only [Act.put, tS1, tS2, tS3]
  refine tkA 58 (?_) ?_ (Below.refl _ _) ?_
  rotate_left
  · (intro w1 hS; go_simp; try with_reducible rfl)
  simp only [Act.put, tS1, tS2, tS3]
  refine wpAnyH_done (by kernel_rfl) ?_ _
  have hy := E11.out
  replace K := Lib.hid (K.out.trans (hy.mono K.out.size))
  replace N := Lib.hid (N.out.below hy N.out.lt)
  replace Nb := Lib.hid (Nb.out.below hy Nb.out.lt)
  replace NX := Lib.hid (NX.out.below hy NX.out.lt)
  replace NY := Lib.hid (NY.out.below hy NY.out.lt)
  clear hy E11
  go_wp2
  go_ret
  exact ⟨rfl, K.out⟩
set_option maxRecDepth 100000 in
set_option maxHeartbeats 8000000 in
theorem tells_bad (a b : Fl) (ha : a.Fit) (hb : b.Fit) (x : Value) (zs : List Nat) (w : World) (hE : Env w) (h : Rd w x (nus .u8 zs)) (hbz : ∀ c ∈ zs, c < 256) (hl : zs.length ≤ 60) (ho : okF zs = false) :
    Calls Tryd.prog 3 #[.agg a.cs, .agg b.cs, x] w fun e w' => e = .returned (.bool true) ∧ Below w.heap.size w w' := by
  have K := Lib.hid (Below.refl w.heap.size w)
  have HE := Lib.hid hE
  have HR := Lib.hid h
  have IK := Lib.hid (fl_ik a ha)
  have IKb := Lib.hid (fl_ik b hb)
  obtain ⟨ad, cap, rfl, hlc, hlm⟩ := rd_shape h
  have CF0 := fun W y (h : Rd W y (nus .u8 zs)) => kfrom_any y zs W h hbz
  have CR := Lib.hid (fun W y (h : Rd W y (nus .u8 zs)) => rfrom_any y zs W h hbz)
  rw [ho] at CF0 CR
  have CF := Lib.hid (show ∀ W y, Rd W y (nus .u8 zs) → Calls Tryd.prog 9 #[y] W fun e w' => e = .returned (.tuple #[.agg (fcs zs), .int .i64 2]) ∧ Below W.heap.size W w' from CF0)
  clear CF0
  obtain ⟨kf, hkf, ekf⟩ := fcs_fit zs hbz
  rw [ekf] at CF CR
  have EQ := Lib.hid (fun W => eq_fl_yes kf hkf W)
  have EV := Lib.hid (fun W => eq_vip_yes a a ha ha rfl rfl rfl rfl W)
  have VA := Lib.hid (fun W => kvalid_any a ha W)
  have VB := Lib.hid (fun W => rvalid_any a ha W)
  have B1 := Lib.hid (fun W => kbytes_any a ha W)
  have B2 := Lib.hid (fun W => rbytes_any a ha W)
  have C1 := Lib.hid (fun W => kcmp_any a b ha hb W)
  have C2 := Lib.hid (fun W => rcmp_any a b ha hb W)
  have P1 := Lib.hid (fun W => kvip_any a ha W)
  have P2 := Lib.hid (fun W => rvip_any a ha W)
  have T1 := Lib.hid (fun W hW => ktext_any a ha W hW)
  have T2 := Lib.hid (fun W => rtext_any a ha W)
  have sF := kf.cs_size hkf
  have YF : Hid (kf.cs.size = Array.size (ZcK : Array Value)) := sF
  have QF := Lib.hid (i42.trans (congrArg some sF.symm))
  have AF := Lib.hid kf.cs_all
  generalize cmpN (bK a) (bK b) = cm at *
  generalize bK a = BA at *
  generalize (⟨(tK a).toArray⟩ : ByteArray) = TA at *
  generalize vipc a = vc at *
  generalize vK a = va at *
  generalize kf.cs = kf at *
  generalize a.cs = kc at *
  generalize b.cs = kcb at *
  generalize zs.length = n at *
  have g1 : decide (60 < (n : Int)) = false := decide_eq_false (by omega)
  have g2 : ¬ 60 < n := by omega
  clear ha hb h hE hlc hlm hbz ho ekf hkf sF hl
  go_enter Tryd.func3, Tryd.ntmps3
  have hal := (Below.refl w.heap.size w).alloc (Nat.le_refl _) (.cells kc 27)
  replace K := Lib.hid (K.out.trans (hal.mono K.out.size))
  have N := Lib.hid (Blk.new w 27 kc)
  clear hal
  have hal := (Below.refl (w.alloc (.cells kc 27)).heap.size (w.alloc (.cells kc 27))).alloc (Nat.le_refl _) (.cells kcb 27)
  replace K := Lib.hid (K.out.trans (hal.mono K.out.size))
  replace N := Lib.hid (N.out.below hal N.out.lt)
  have Nbq := Blk.new (w.alloc (.cells kc 27)) 27 kcb
  simp only [World.size_alloc] at Nbq
  have Nb := Lib.hid Nbq
  clear Nbq
  clear hal
  go_wp2_with fail
  have hzV1 : Hid (((w.alloc (.cells kc 27)).alloc (.cells kcb 27)).heap.size = w.heap.size + 1 + 1) := by show _ = _; simp only [World.size_alloc]
  generalize ((w.alloc (.cells kc 27)).alloc (.cells kcb 27)) = V1 at *
  refine (CF.out V1 _ (HR.out.below K.out)).mono ?_
  rintro e V2 ⟨rfl, hy⟩
  replace K := Lib.hid (K.out.trans (hy.mono K.out.size))
  replace N := Lib.hid (N.out.below hy N.out.lt)
  replace Nb := Lib.hid (Nb.out.below hy Nb.out.lt)
  clear hy
  go_wp2_with (((with_reducible refine wpList_blk_store (op := ⟨none, .store 27 (.tmp 7) (.tmp 18), _, _, _, _⟩) ?sg3 27 (.tmp 7) (.tmp 18) ?so3 (V2.heap.size) kf ?sx3 ?sy3 (Blk.new V2 27 ZcK) YF.out QF.out AF.out ?_); (case sg3 => rfl); (case so3 => rfl); (case sx3 => rfl); (case sy3 => rfl)))
  have qNNX : w.heap.size < V2.heap.size := N.out.lt
  have qNbNX : w.heap.size + 1 < V2.heap.size := Nb.out.lt
  intro V3 hA hF hB
  have hy := ((Below.refl V2.heap.size V2).alloc (Nat.le_refl _) (.cells ZcK 27)).trans (hB _ (Nat.le_refl _))
  replace K := Lib.hid (K.out.trans (hy.mono K.out.size))
  replace N := Lib.hid (N.out.below hy N.out.lt)
  replace Nb := Lib.hid (Nb.out.below hy Nb.out.lt)
  have NX := Lib.hid hA
  clear hA hF hB hy
  go_wp2_with fail
  refine (CR.out V3 _ (HR.out.below K.out)).mono ?_
  rintro e V4 ⟨rfl, hy⟩
  replace K := Lib.hid (K.out.trans (hy.mono K.out.size))
  replace N := Lib.hid (N.out.below hy N.out.lt)
  replace Nb := Lib.hid (Nb.out.below hy Nb.out.lt)
  replace NX := Lib.hid (NX.out.below hy NX.out.lt)
  clear hy
  go_wp2_with (((with_reducible refine wpList_blk_store (op := ⟨none, .store 27 (.tmp 9) (.tmp 23), _, _, _, _⟩) ?sg4 27 (.tmp 9) (.tmp 23) ?so4 (V4.heap.size) kf ?sx4 ?sy4 (Blk.new V4 27 ZcK) YF.out QF.out AF.out ?_); (case sg4 => rfl); (case so4 => rfl); (case sx4 => rfl); (case sy4 => rfl)))
  have qNNY : w.heap.size < V4.heap.size := N.out.lt
  have qNbNY : w.heap.size + 1 < V4.heap.size := Nb.out.lt
  have qNXNY : V2.heap.size < V4.heap.size := NX.out.lt
  intro V5 hA hF hB
  have hy := ((Below.refl V4.heap.size V4).alloc (Nat.le_refl _) (.cells ZcK 27)).trans (hB _ (Nat.le_refl _))
  replace K := Lib.hid (K.out.trans (hy.mono K.out.size))
  replace N := Lib.hid (N.out.below hy N.out.lt)
  replace Nb := Lib.hid (Nb.out.below hy Nb.out.lt)
  replace NX := Lib.hid (NX.out.below hy NX.out.lt)
  have NY := Lib.hid hA
  clear hA hF hB hy
  go_wp2_with fail
  refine wp_region_held (S := (fun w' : World => Below (V5.heap.size) V5 w')) (by kernel_rfl) ?_
  change wpAnyH _ _ _ _ _ _ _ _ V5.drew
  have hy : Below V5.heap.size V5 V5.drew := (Below.refl _ _).drew
  have hE0 : Below (V5.heap.size) V5 V5.drew := (Below.refl _ _).drew
  clear hy
  generalize V5.drew = Y5x0 at hE0  ⊢
  have E0 := Lib.hid hE0
  clear hE0
  refine tkA 0 (.agg kc) ?_ E0.out ?_
  · (intro w1 hS; have hW := hS; exact exec_load 27 (.tmp 3) rfl _ rfl _ (run_blk_load (P := Tryd.prog) 27 (w.heap.size) _ (N.out.below hW N.out.lt) Tryd.underlying27 rfl IK.out))
  simp only [Act.put, tS1, tS2, tS3]
  refine tkA 2 (.agg kc) ?_ E0.out ?_
  · (intro w1 hS; have hW := hS; exact exec_load 27 (.tmp 3) rfl _ rfl _ (run_blk_load (P := Tryd.prog) 27 (w.heap.size) _ (N.out.below hW N.out.lt) Tryd.underlying27 rfl IK.out))
  simp only [Act.put, tS1, tS2, tS3]
  refine tkO 1 (fun KK hK => ?_)
  go_simp
  refine (VA.out Y5x0).mono ?_
  rintro e Y5x1 ⟨rfl, hy⟩
  have E1 := Lib.hid (E0.out.trans (hy.mono E0.out.size))
  have C1 := Lib.hid E1.out
  clear hy E0
  refine hK.out _ _ C1.out (fun _ => ?_)
  clear hK KK
  refine wpAnyH_mono (S' := (fun w' : World => Below Y5x1.heap.size Y5x1 w')) (fun w1 h => C1.out.trans (h.mono C1.out.size)) _ _ _ _ ?_
  clear C1
  try simp only [Act.put, tS1, tS2, tS3]
  refine tkO 3 (fun KK hK => ?_)
  go_simp
  refine (VB.out Y5x1).mono ?_
  rintro e Y5x2 ⟨rfl, hy⟩
  have E2 := Lib.hid (E1.out.trans (hy.mono E1.out.size))
  have C2 := Lib.hid hy
  clear hy E1
  refine hK.out _ _ C2.out (fun _ => ?_)
  clear hK KK
  refine wpAnyH_mono (S' := (fun w' : World => Below Y5x2.heap.size Y5x2 w')) (fun w1 h => C2.out.trans (h.mono C2.out.size)) _ _ _ _ ?_
  clear C2
  try simp only [Act.put, tS1, tS2, tS3]
  refine tkA 4 (?_) ?_ (Below.refl _ _) ?_
  rotate_left
  · (intro w1 hS; go_simp; try with_reducible rfl)
  simp only [Act.put, tS1, tS2, tS3]
  refine tkA 5 (?_) ?_ (Below.refl _ _) ?_
  rotate_left
  · (intro w1 hS; go_simp; try with_reducible rfl)
  simp only [Act.put, tS1, tS2, tS3]
  refine tkA 6 (.agg kc) ?_ (Below.refl _ _) ?_
  · (intro w1 hS; have hW := E2.out.trans (hS.mono E2.out.size); exact exec_load 27 (.tmp 3) rfl _ rfl _ (run_blk_load (P := Tryd.prog) 27 (w.heap.size) _ (N.out.below hW N.out.lt) Tryd.underlying27 rfl IK.out))
  simp only [Act.put, tS1, tS2, tS3]
  refine tkA 9 (.agg kc) ?_ (Below.refl _ _) ?_
  · (intro w1 hS; have hW := E2.out.trans (hS.mono E2.out.size); exact exec_load 27 (.tmp 3) rfl _ rfl _ (run_blk_load (P := Tryd.prog) 27 (w.heap.size) _ (N.out.below hW N.out.lt) Tryd.underlying27 rfl IK.out))
  simp only [Act.put, tS1, tS2, tS3]
  refine tkO 7 (fun KK hK => ?_)
  go_simp
  refine (B1.out Y5x2).mono ?_
  rintro e Y5x3 ⟨x1, rfl, r1, hy⟩
  have E3 := Lib.hid (E2.out.trans (hy.mono E2.out.size))
  have C3 := Lib.hid hy
  have R1 := Lib.hid (r1)
  clear r1
  clear hy E2
  refine hK.out _ _ C3.out (fun _ => ?_)
  clear hK KK
  refine wpAnyH_mono (S' := (fun w' : World => Below Y5x3.heap.size Y5x3 w')) (fun w1 h => C3.out.trans (h.mono C3.out.size)) _ _ _ _ ?_
  clear C3
  try simp only [Act.put, tS1, tS2, tS3]
  refine tkA 8 (?_) ?_ (Below.refl _ _) ?_
  rotate_left
  · (intro w1 hS; have hW := E3.out.trans (hS.mono E3.out.size); have q := conv_rd (P := Tryd.prog) w1 28 9 5 Tryd.underlying28 Tryd.underlying5 Tryd.underlying9 _ _ (R1.out.below hS); clear hW hS; go_simp; try with_reducible rfl)
  simp only [Act.put, tS1, tS2, tS3]
  refine tkO 10 (fun KK hK => ?_)
  go_simp
  refine (B2.out Y5x3).mono ?_
  rintro e Y5x4 ⟨x2, rfl, r2, hy⟩
  replace R1 := Lib.hid (R1.out.below hy)
  have E4 := Lib.hid (E3.out.trans (hy.mono E3.out.size))
  have C4 := Lib.hid hy
  have R2 := Lib.hid (r2)
  clear r2
  clear hy E3
  refine hK.out _ _ C4.out (fun _ => ?_)
  clear hK KK
  refine wpAnyH_mono (S' := (fun w' : World => Below Y5x4.heap.size Y5x4 w')) (fun w1 h => C4.out.trans (h.mono C4.out.size)) _ _ _ _ ?_
  clear C4
  try simp only [Act.put, tS1, tS2, tS3]
  refine tkA 11 (?_) ?_ (Below.refl _ _) ?_
  rotate_left
  · (intro w1 hS; have hW := E4.out.trans (hS.mono E4.out.size); have q := conv_rd (P := Tryd.prog) w1 28 9 5 Tryd.underlying28 Tryd.underlying5 Tryd.underlying9 _ _ (R2.out.below hS); clear hW hS; go_simp; try with_reducible rfl)
  simp only [Act.put, tS1, tS2, tS3]
  refine tkA 12 (?_) ?_ (Below.refl _ _) ?_
  rotate_left
  · (intro w1 hS; go_simp; try with_reducible rfl)
  simp only [Act.put, tS1, tS2, tS3]
  refine tkA 13 (?_) ?_ (Below.refl _ _) ?_
  rotate_left
  · (intro w1 hS; go_simp; try with_reducible rfl)
  simp only [Act.put, tS1, tS2, tS3]
  refine tkA 14 (?_) ?_ (Below.refl _ _) ?_
  rotate_left
  · (intro w1 hS; go_simp; try with_reducible rfl)
  simp only [Act.put, tS1, tS2, tS3]
  refine tkA 15 (.agg kf) ?_ (Below.refl _ _) ?_
  · (intro w1 hS; have hW := E4.out.trans (hS.mono E4.out.size); exact exec_load 27 (.tmp 7) rfl _ rfl _ (run_blk_load (P := Tryd.prog) 27 (V2.heap.size) _ (NX.out.below hW NX.out.lt) Tryd.underlying27 rfl QF.out))
  simp only [Act.put, tS1, tS2, tS3]
  refine tkA 16 (.agg kf) ?_ (Below.refl _ _) ?_
  · (intro w1 hS; have hW := E4.out.trans (hS.mono E4.out.size); exact exec_load 27 (.tmp 9) rfl _ rfl _ (run_blk_load (P := Tryd.prog) 27 (V4.heap.size) _ (NY.out.below hW NY.out.lt) Tryd.underlying27 rfl QF.out))
  simp only [Act.put, tS1, tS2, tS3]
  refine tkA 17 (?_) ?_ (Below.refl _ _) ?_
  rotate_left
  · (intro w1 hS; have hW := E4.out.trans (hS.mono E4.out.size); have q := EQ.out; clear hW hS; go_simp; try with_reducible rfl)
  simp only [Act.put, tS1, tS2, tS3]
  refine tkA 18 (?_) ?_ (Below.refl _ _) ?_
  rotate_left
  · (intro w1 hS; go_simp; try with_reducible rfl)
  simp only [Act.put, tS1, tS2, tS3]
  refine tkA 19 (?_) ?_ (Below.refl _ _) ?_
  rotate_left
  · (intro w1 hS; go_simp; try with_reducible rfl)
  simp only [Act.put, tS1, tS2, tS3]
  refine tkA 20 (?_) ?_ (Below.refl _ _) ?_
  rotate_left
  · (intro w1 hS; go_simp; try with_reducible rfl)
  simp only [Act.put, tS1, tS2, tS3]
  refine tkA 21 (?_) ?_ (Below.refl _ _) ?_
  rotate_left
  · (intro w1 hS; go_simp; try with_reducible rfl)
  simp only [Act.put, tS1, tS2, tS3]
  refine tkA 22 (?_) ?_ (Below.refl _ _) ?_
  rotate_left
  · (intro w1 hS; go_simp; try with_reducible rfl)
  simp only [Act.put, tS1, tS2, tS3]
  refine tkA 23 (?_) ?_ (Below.refl _ _) ?_
  rotate_left
  · (intro w1 hS; go_simp; try with_reducible rfl)
  simp only [Act.put, tS1, tS2, tS3]
  refine tkA 24 (?_) ?_ (Below.refl _ _) ?_
  rotate_left
  · (intro w1 hS; go_simp; try with_reducible rfl)
  simp only [Act.put, tS1, tS2, tS3]
  refine tkA 25 (?_) ?_ (Below.refl _ _) ?_
  rotate_left
  · (intro w1 hS; go_simp; try with_reducible rfl)
  simp only [Act.put, tS1, tS2, tS3]
  refine tkA 26 (?_) ?_ (Below.refl _ _) ?_
  rotate_left
  · (intro w1 hS; go_simp; try with_reducible rfl)
  simp only [Act.put, tS1, tS2, tS3]
  refine tkA 27 (?_) ?_ (Below.refl _ _) ?_
  rotate_left
  · (intro w1 hS; go_simp; try with_reducible rfl)
  simp only [Act.put, tS1, tS2, tS3]
  refine tkA 28 (?_) ?_ (Below.refl _ _) ?_
  rotate_left
  · (intro w1 hS; go_simp; try with_reducible rfl)
  simp only [Act.put, tS1, tS2, tS3]
  refine tkA 29 (?_) ?_ (Below.refl _ _) ?_
  rotate_left
  · (intro w1 hS; go_simp; try with_reducible rfl)
  simp only [Act.put, tS1, tS2, tS3]
  refine tkA 30 (?_) ?_ (Below.refl _ _) ?_
  rotate_left
  · (intro w1 hS; go_simp; try with_reducible rfl)
  simp only [Act.put, tS1, tS2, tS3]
  refine tkA 31 (?_) ?_ (Below.refl _ _) ?_
  rotate_left
  · (intro w1 hS; go_simp; try with_reducible rfl)
  simp only [Act.put, tS1, tS2, tS3]
  refine tkA 32 (?_) ?_ (Below.refl _ _) ?_
  rotate_left
  · (intro w1 hS; go_simp; try with_reducible rfl)
  simp only [Act.put, tS1, tS2, tS3]
  refine tkA 33 (.agg kc) ?_ (Below.refl _ _) ?_
  · (intro w1 hS; have hW := E4.out.trans (hS.mono E4.out.size); exact exec_load 27 (.tmp 3) rfl _ rfl _ (run_blk_load (P := Tryd.prog) 27 (w.heap.size) _ (N.out.below hW N.out.lt) Tryd.underlying27 rfl IK.out))
  simp only [Act.put, tS1, tS2, tS3]
  refine tkA 34 (.agg kcb) ?_ (Below.refl _ _) ?_
  · (intro w1 hS; have hW := E4.out.trans (hS.mono E4.out.size); exact exec_load 27 (.tmp 4) rfl _ rfl _ (run_blk_load (P := Tryd.prog) 27 (w.heap.size + 1) _ (Nb.out.below hW Nb.out.lt) Tryd.underlying27 rfl IKb.out))
  simp only [Act.put, tS1, tS2, tS3]
  refine tkA 36 (.agg kc) ?_ (Below.refl _ _) ?_
  · (intro w1 hS; have hW := E4.out.trans (hS.mono E4.out.size); exact exec_load 27 (.tmp 3) rfl _ rfl _ (run_blk_load (P := Tryd.prog) 27 (w.heap.size) _ (N.out.below hW N.out.lt) Tryd.underlying27 rfl IK.out))
  simp only [Act.put, tS1, tS2, tS3]
  refine tkA 37 (.agg kcb) ?_ (Below.refl _ _) ?_
  · (intro w1 hS; have hW := E4.out.trans (hS.mono E4.out.size); exact exec_load 27 (.tmp 4) rfl _ rfl _ (run_blk_load (P := Tryd.prog) 27 (w.heap.size + 1) _ (Nb.out.below hW Nb.out.lt) Tryd.underlying27 rfl IKb.out))
  simp only [Act.put, tS1, tS2, tS3]
  refine tkO 35 (fun KK hK => ?_)
  go_simp
  refine (C1.out Y5x4).mono ?_
  rintro e Y5x5 ⟨rfl, hy⟩
  replace R1 := Lib.hid (R1.out.below hy)
  replace R2 := Lib.hid (R2.out.below hy)
  have E5 := Lib.hid (E4.out.trans (hy.mono E4.out.size))
  have C5 := Lib.hid hy
  clear hy E4
  refine hK.out _ _ C5.out (fun _ => ?_)
  clear hK KK
  refine wpAnyH_mono (S' := (fun w' : World => Below Y5x5.heap.size Y5x5 w')) (fun w1 h => C5.out.trans (h.mono C5.out.size)) _ _ _ _ ?_
  clear C5
  try simp only [Act.put, tS1, tS2, tS3]
  refine tkO 38 (fun KK hK => ?_)
  go_simp
  refine (C2.out Y5x5).mono ?_
  rintro e Y5x6 ⟨rfl, hy⟩
  replace R1 := Lib.hid (R1.out.below hy)
  replace R2 := Lib.hid (R2.out.below hy)
  have E6 := Lib.hid (E5.out.trans (hy.mono E5.out.size))
  have C6 := Lib.hid hy
  clear hy E5
  refine hK.out _ _ C6.out (fun _ => ?_)
  clear hK KK
  refine wpAnyH_mono (S' := (fun w' : World => Below Y5x6.heap.size Y5x6 w')) (fun w1 h => C6.out.trans (h.mono C6.out.size)) _ _ _ _ ?_
  clear C6
  try simp only [Act.put, tS1, tS2, tS3]
  refine tkA 39 (?_) ?_ (Below.refl _ _) ?_
  rotate_left
  · (intro w1 hS; go_simp; try with_reducible rfl)
  simp only [Act.put, tS1, tS2, tS3]
  refine tkA 40 (?_) ?_ (Below.refl _ _) ?_
  rotate_left
  · (intro w1 hS; go_simp; try with_reducible rfl)
  simp only [Act.put, tS1, tS2, tS3]
  refine tkA 41 (?_) ?_ (Below.refl _ _) ?_
  rotate_left
  · (intro w1 hS; go_simp; try with_reducible rfl)
  simp only [Act.put, tS1, tS2, tS3]
  refine tkA 42 (.agg kc) ?_ (Below.refl _ _) ?_
  · (intro w1 hS; have hW := E6.out.trans (hS.mono E6.out.size); exact exec_load 27 (.tmp 3) rfl _ rfl _ (run_blk_load (P := Tryd.prog) 27 (w.heap.size) _ (N.out.below hW N.out.lt) Tryd.underlying27 rfl IK.out))
  simp only [Act.put, tS1, tS2, tS3]
  refine tkA 44 (.agg kc) ?_ (Below.refl _ _) ?_
  · (intro w1 hS; have hW := E6.out.trans (hS.mono E6.out.size); exact exec_load 27 (.tmp 3) rfl _ rfl _ (run_blk_load (P := Tryd.prog) 27 (w.heap.size) _ (N.out.below hW N.out.lt) Tryd.underlying27 rfl IK.out))
  simp only [Act.put, tS1, tS2, tS3]
  refine tkO 43 (fun KK hK => ?_)
  go_simp
  refine (P1.out Y5x6).mono ?_
  rintro e Y5x7 ⟨rfl, hy⟩
  replace R1 := Lib.hid (R1.out.below hy)
  replace R2 := Lib.hid (R2.out.below hy)
  have E7 := Lib.hid (E6.out.trans (hy.mono E6.out.size))
  have C7 := Lib.hid hy
  clear hy E6
  refine hK.out _ _ C7.out (fun _ => ?_)
  clear hK KK
  refine wpAnyH_mono (S' := (fun w' : World => Below Y5x7.heap.size Y5x7 w')) (fun w1 h => C7.out.trans (h.mono C7.out.size)) _ _ _ _ ?_
  clear C7
  try simp only [Act.put, tS1, tS2, tS3]
  refine tkO 45 (fun KK hK => ?_)
  go_simp
  refine (P2.out Y5x7).mono ?_
  rintro e Y5x8 ⟨rfl, hy⟩
  replace R1 := Lib.hid (R1.out.below hy)
  replace R2 := Lib.hid (R2.out.below hy)
  have E8 := Lib.hid (E7.out.trans (hy.mono E7.out.size))
  have C8 := Lib.hid hy
  clear hy E7
  refine hK.out _ _ C8.out (fun _ => ?_)
  clear hK KK
  refine wpAnyH_mono (S' := (fun w' : World => Below Y5x8.heap.size Y5x8 w')) (fun w1 h => C8.out.trans (h.mono C8.out.size)) _ _ _ _ ?_
  clear C8
  try simp only [Act.put, tS1, tS2, tS3]
  refine tkA 46 (?_) ?_ (Below.refl _ _) ?_
  rotate_left
  · (intro w1 hS; have hW := E8.out.trans (hS.mono E8.out.size); have q := EV.out; clear hW hS; go_simp; try with_reducible rfl)
  simp only [Act.put, tS1, tS2, tS3]
  refine tkA 47 (?_) ?_ (Below.refl _ _) ?_
  rotate_left
  · (intro w1 hS; go_simp; try with_reducible rfl)
  simp only [Act.put, tS1, tS2, tS3]
  refine tkA 48 (?_) ?_ (Below.refl _ _) ?_
  rotate_left
  · (intro w1 hS; go_simp; try with_reducible rfl)
  simp only [Act.put, tS1, tS2, tS3]
  refine tkA 49 (.agg kc) ?_ (Below.refl _ _) ?_
  · (intro w1 hS; have hW := E8.out.trans (hS.mono E8.out.size); exact exec_load 27 (.tmp 3) rfl _ rfl _ (run_blk_load (P := Tryd.prog) 27 (w.heap.size) _ (N.out.below hW N.out.lt) Tryd.underlying27 rfl IK.out))
  simp only [Act.put, tS1, tS2, tS3]
  refine tkA 51 (.agg kc) ?_ (Below.refl _ _) ?_
  · (intro w1 hS; have hW := E8.out.trans (hS.mono E8.out.size); exact exec_load 27 (.tmp 3) rfl _ rfl _ (run_blk_load (P := Tryd.prog) 27 (w.heap.size) _ (N.out.below hW N.out.lt) Tryd.underlying27 rfl IK.out))
  simp only [Act.put, tS1, tS2, tS3]
  refine tkO 50 (fun KK hK => ?_)
  go_simp
  refine (T1.out Y5x8 ((HE.out.below K.out).below E8.out)).mono ?_
  rintro e Y5x9 ⟨rfl, hy⟩
  replace R1 := Lib.hid (R1.out.below hy)
  replace R2 := Lib.hid (R2.out.below hy)
  have E9 := Lib.hid (E8.out.trans (hy.mono E8.out.size))
  have C9 := Lib.hid hy
  clear hy E8
  refine hK.out _ _ C9.out (fun _ => ?_)
  clear hK KK
  refine wpAnyH_mono (S' := (fun w' : World => Below Y5x9.heap.size Y5x9 w')) (fun w1 h => C9.out.trans (h.mono C9.out.size)) _ _ _ _ ?_
  clear C9
  try simp only [Act.put, tS1, tS2, tS3]
  refine tkO 52 (fun KK hK => ?_)
  go_simp
  refine (T2.out Y5x9).mono ?_
  rintro e Y5x10 ⟨rfl, hy⟩
  replace R1 := Lib.hid (R1.out.below hy)
  replace R2 := Lib.hid (R2.out.below hy)
  have E10 := Lib.hid (E9.out.trans (hy.mono E9.out.size))
  have C10 := Lib.hid hy
  clear hy E9
  refine hK.out _ _ C10.out (fun _ => ?_)
  clear hK KK
  refine wpAnyH_mono (S' := (fun w' : World => Below Y5x10.heap.size Y5x10 w')) (fun w1 h => C10.out.trans (h.mono C10.out.size)) _ _ _ _ ?_
  clear C10
  try simp only [Act.put, tS1, tS2, tS3]
  refine tkA 53 (?_) ?_ (Below.refl _ _) ?_
  rotate_left
  · (intro w1 hS; go_simp; try with_reducible rfl)
  simp only [Act.put, tS1, tS2, tS3]
  refine tkA 54 (?_) ?_ (Below.refl _ _) ?_
  rotate_left
  · (intro w1 hS; go_simp; try with_reducible rfl)
  simp only [Act.put, tS1, tS2, tS3]
  refine tkA 55 (?_) ?_ (Below.refl _ _) ?_
  rotate_left
  · (intro w1 hS; go_simp; try with_reducible rfl)
  simp only [Act.put, tS1, tS2, tS3]
  refine tkO 56 (fun KK hK => ?_)
  go_simp
  refine (awake_any Y5x10 ((HE.out.below K.out).below E10.out)).mono ?_
  rintro e Y5x11 ⟨rfl, hy⟩
  replace R1 := Lib.hid (R1.out.below hy)
  replace R2 := Lib.hid (R2.out.below hy)
  have E11 := Lib.hid (E10.out.trans (hy.mono E10.out.size))
  have C11 := Lib.hid hy
  clear hy E10
  refine hK.out _ _ C11.out (fun _ => ?_)
  clear hK KK
  refine wpAnyH_mono (S' := (fun w' : World => Below Y5x11.heap.size Y5x11 w')) (fun w1 h => C11.out.trans (h.mono C11.out.size)) _ _ _ _ ?_
  clear C11
  try simp only [Act.put, tS1, tS2, tS3]
  refine tkA 57 (?_) ?_ (Below.refl _ _) ?_
  rotate_left
  · (intro w1 hS; go_simp; try with_reducible rfl)
  simp only [Act.put, tS1, tS2, tS3]
  refine tkA 58 (?_) ?_ (Below.refl _ _) ?_
  rotate_left
  · (intro w1 hS; go_simp; try with_reducible rfl)
  simp only [Act.put, tS1, tS2, tS3]
  refine wpAnyH_done (by kernel_rfl) ?_ _
  have hy := E11.out
  replace K := Lib.hid (K.out.trans (hy.mono K.out.size))
  replace N := Lib.hid (N.out.below hy N.out.lt)
  replace Nb := Lib.hid (Nb.out.below hy Nb.out.lt)
  replace NX := Lib.hid (NX.out.below hy NX.out.lt)
  replace NY := Lib.hid (NY.out.below hy NY.out.lt)
  clear hy E11
  go_wp2
  go_ret
  exact ⟨rfl, K.out⟩
theorem tells_walk (a b : Fl) (ha : a.Fit) (hb : b.Fit) (x : Value) (zs : List Nat) (w : World) (hE : Env w) (h : Rd w x (nus .u8 zs)) (hbz : ∀ c ∈ zs, c < 256) :
    Calls Tryd.prog 3 #[.agg a.cs, .agg b.cs, x] w fun e w' => e = .returned (.bool true) ∧ Below w.heap.size w w' := by
  by_cases hl : 60 < zs.length
  · exact tells_long a b ha hb x zs w hE h hl
  · cases ho : okF zs with
    | true => exact tells_ok a b ha hb x zs w hE h hbz (by omega) ho
    | false => exact tells_bad a b ha hb x zs w hE h hbz (by omega) ho
end Go.Proofs.YthkaadcgiplolaaDoor
