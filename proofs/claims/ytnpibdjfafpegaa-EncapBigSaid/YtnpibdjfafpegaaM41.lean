/- Texts that the walks of this seat lean on, put together. -/
import Derived.Lib.SlBytesConst
import Derived.Test.YtnpibdjfafpegaaTk
import Derived.Test.YtnpibdjfafpegaaM11
import Derived.Test.YtnpibdjfafpegaaM13
import Derived.Test.YtnpibdjfafpegaaM20
import Derived.Test.YtnpibdjfafpegaaM38
import Derived.Test.YtnpibdjfafpegaaM40
namespace Go.Proofs.Ytnpibdjfafpegaa
open Go.RowKit
set_option maxRecDepth 100000 in
theorem dip_addr (A : Array Value) (p : Nat) (h : A.size = 17) (W : World) : (Instr.field 33 (.agg (dcells A p)) 0).run Try.prog W = .ok (.agg A) W := by
  obtain ⟨x0, x1, x2, x3, x4, x5, x6, x7, x8, x9, x10, x11, x12, x13, x14, x15, x16, rfl⟩ := arr17 A h
  kernel_rfl
theorem dip16 (n : Int) (v : Bool) (w : World) : Calls Try.prog 10 #[.int .i64 n, .bool v] w fun e w' => e = .returned (.agg (dcells (cellsA v (D16 (n % 200).toNat)) (8000 + (n % 1000).toNat))) ∧ Below w.heap.size w w' := dip_any n v w
set_option maxRecDepth 100000 in
theorem own_any (v : Bool) (w : World) : Calls Try.prog 12 #[.bool v] w fun e w' => e = .returned (adr v (D16 150)) ∧ Below w.heap.size w w' := by
  have CD := Lib.hid (fun W => dip16 150 v W)
  rw [show ((150 : Int) % 200).toNat = 150 from by decide, show (8000 + ((150 : Int) % 1000).toNat) = 8150 from by decide] at CD
  have K := Lib.hid (Below.refl w.heap.size w)
  have sA : (cellsA v (D16 150)).size = 17 := by rw [cellsA_size, D16_len]
  have FD := Lib.hid (fun W => dip_addr (cellsA v (D16 150)) 8150 sA W)
  have YA : Hid ((cellsA v (D16 150)).size = Array.size (Zc17 : Array Value)) := sA
  have QA := Lib.hid (i24.trans (congrArg some sA.symm))
  have AA := Lib.hid (cellsA_all v (D16 150))
  unfold adr
  generalize dcells (cellsA v (D16 150)) 8150 = dc at *
  generalize cellsA v (D16 150) = DA at *
  clear sA
  go_enter Try.func12, Try.ntmps12
  have hal := (Below.refl w.heap.size w).alloc (Nat.le_refl _) (.cells Zc17 27)
  replace K := Lib.hid (K.out.trans (hal.mono K.out.size))
  have HT := Lib.hid (Blk.new w 27 Zc17)
  clear hal
  go_wp2_with fail
  have hzV1 : Hid ((w.alloc (.cells Zc17 27)).heap.size = w.heap.size + 1) := by show _ = _; simp only [World.size_alloc]
  generalize (w.alloc (.cells Zc17 27)) = V1 at *
  refine (CD.out V1).mono ?_
  rintro e V2 ⟨rfl, hy⟩
  replace K := Lib.hid (K.out.trans (hy.mono K.out.size))
  replace HT := Lib.hid (HT.out.below hy HT.out.lt)
  clear hy
  go_wp2_with (first | ((with_reducible refine wpList_field_want (op := ⟨some 6, .field 33 (.tmp 5) 0, _, _, _, _⟩) ?wg1 33 (.tmp 5) 0 ?wo1 (.agg dc) (.agg DA) ?wx1 (FD.out _) ?_); (case wg1 => rfl); (case wo1 => rfl); (case wx1 => rfl)) | ((with_reducible refine wpList_blk_store (op := ⟨none, .store 27 (.tmp 3) (.tmp 6), _, _, _, _⟩) ?sg2 27 (.tmp 3) (.tmp 6) ?so2 (V2.heap.size) DA ?sx2 ?sy2 (Blk.new V2 27 Zc17) YA.out QA.out AA.out ?_); (case sg2 => rfl); (case so2 => rfl); (case sx2 => rfl); (case sy2 => rfl)))
  have qHTHA : w.heap.size < V2.heap.size := HT.out.lt
  intro V3 hA hF hB
  have hy := ((Below.refl V2.heap.size V2).alloc (Nat.le_refl _) (.cells Zc17 27)).trans (hB _ (Nat.le_refl _))
  replace K := Lib.hid (K.out.trans (hy.mono K.out.size))
  replace HT := Lib.hid (HT.out.below hy HT.out.lt)
  have HA := Lib.hid hA
  clear hA hF hB hy
  have L3 : (loadVar 27 ⟨V2.heap.size, 0, none⟩).run Try.prog V3 = .ok (.agg DA) V3 := run_blk_load (P := Try.prog) 27 (V2.heap.size) _ HA.out Try.underlying27 rfl QA.out
  replace L3 := Lib.hid L3
  go_wp2_with (first | ((with_reducible refine wpList_load_want (op := ⟨some 7, .load 27 (.tmp 3), _, _, _, _⟩) ?wg3 27 (.tmp 3) ?wo3 ⟨V2.heap.size, 0, none⟩ ?wx3 (.agg DA) L3.out ?_); (case wg3 => rfl); (case wo3 => rfl); (case wx3 => rfl)) | ((with_reducible refine wpList_blk_store (op := ⟨none, .store 27 (.tmp 2) (.tmp 7), _, _, _, _⟩) ?sg4 27 (.tmp 2) (.tmp 7) ?so4 (w.heap.size) DA ?sx4 ?sy4 HT.out YA.out QA.out AA.out ?_); (case sg4 => rfl); (case so4 => rfl); (case sx4 => rfl); (case sy4 => rfl)))
  clear L3
  intro V4 hA hF hB
  replace K := Lib.hid (K.out.trans (hB _ (by omega)))
  replace HA := Lib.hid (show Blk _ _ _ _ from (hF _ (by omega)).trans HA.out)
  replace HT := Lib.hid hA
  clear hA hF hB
  go_wp2
  have hrun := run_blk_load (P := Try.prog) 27 w.heap.size _ HT.out Try.underlying27 rfl QA.out
  exact bodyPost_ret (results_cell 2 27 w.heap.size _ Try.results12 rfl hrun) rfl ⟨rfl, K.out⟩
set_option maxRecDepth 100000 in
set_option maxHeartbeats 4000000 in
theorem awake_any (w : World) : Calls Try.prog 7 #[] w fun e w' => e = .returned (.bool true) ∧ Below w.heap.size w w' := by
  have CK := Lib.hid (fun W => flow_any 5 true true W)
  rw [show ((5 : Int) % 1073741824).toNat = 5 from by decide] at CK
  have CB := Lib.hid (show ∀ W z, Rd W (.slice (some z) 3 3) (nus .u8 [97, 98, 99]) → Calls Try.prog 8 #[.agg (flow 5 true true), .int .u8 0, .slice (some z) 3 3, .bool true, .bool false, .int .i64 4] W fun e w' => ∃ g c, e = .returned (.slice (some ⟨g, 0, none⟩) 73 c) ∧ Rd w' (.slice (some ⟨g, 0, none⟩) 73 c) (nus .u8 B10) ∧ Below W.heap.size W w' from fun W z h => by
    refine (fB8_any 5 true true 0 4 (some z) 3 3 [97, 98, 99] true false W h rfl (by intro e; cases e) (by decide) (by omega) (by omega) (by omega)).mono ?_
    rintro e w' ⟨g, c, rfl, ho, hB⟩
    rw [show fB8 5 true true 0 [97, 98, 99] true false (List.replicate 4 0) = B10 from rfl, B10_len] at ho
    exact ⟨g, c, by rw [show fB8 5 true true 0 [97, 98, 99] true false (List.replicate 4 0) = B10 from rfl, B10_len], Rd.own ho, hB⟩)
  have CD := Lib.hid (fun W => dip16 1 false W)
  rw [show ((1 : Int) % 200).toNat = 1 from by decide, show (8000 + ((1 : Int) % 1000).toNat) = 8001 from by decide] at CD
  have CO4 := Lib.hid (fun W => own_any false W)
  have CO6 := Lib.hid (fun W => own_any true W)
  have l5 := D16_len 150
  have l1 := D16_len 1
  have b5 := D16_lt 150 (by decide)
  have b1 := D16_lt 1 (by decide)
  have C1 := Lib.hid (fun W z (h : Rd W z (nus .u8 B10)) => in_ok4 z B10 (D16 150) (D16 150) (D16 1) false true W h B10_lt (by rw [B10_len]; omega) l5 l5 l1 B10_rr rfl rfl b5 b5 b1 (D16_v _ _) (D16_v _ _) (by rw [B10_s]; omega))
  have C2 := Lib.hid (fun W z (h : Rd W z (nus .u8 O10)) => out_any z O10 W h O10_lt (by rw [O10_len]; omega))
  rw [O10_was.ok, O10_was.a, O10_was.l, B10_e] at C2
  have C3 := Lib.hid (fun W z (h : Rd W z (nus .u8 B10)) => in_kind z B10 (D16 150) (D16 150) (D16 1) true true false W h B10_lt (by rw [B10_len]; omega) l5 l5 l1 B10_rr rfl rfl)
  have C4 := Lib.hid (fun W z (h : Rd W z (nus .u8 (B10.take 30))) => in_reason z (B10.take 30) (D16 150) (D16 150) (D16 1) false true false W h (fun c hc => B10_lt c (List.mem_of_mem_take hc)) (by rw [List.length_take, B10_len]; omega) l5 l5 l1 (by rw [B10_cut]; omega))
  rw [B10_cut] at C4
  have C5 := Lib.hid (fun W z (h : Rd W z (nus .u8 B10)) => out_off z B10 W h B10_lt (by rw [B10_len]; omega) B10_net B10_opn)
  have QA := Lib.hid (fun W => eq_adr false (D16 1) l1 b1 W)
  have sA : (cellsA false (D16 1)).size = 17 := rfl
  have FD := Lib.hid (fun W => dip_addr (cellsA false (D16 1)) 8001 sA W)
  have YA : Hid ((cellsA false (D16 1)).size = Array.size (Zc17 : Array Value)) := sA
  have ZA := Lib.hid (i24.trans (congrArg some sA.symm))
  have AA := Lib.hid (cellsA_all false (D16 1))
  have Y0 : Hid (z17.size = Array.size (Zc17 : Array Value)) := rfl
  have Q0 := Lib.hid (i24.trans (congrArg some (show 17 = z17.size from rfl)))
  have A0 := Lib.hid z17_all
  have kcv := fun (w : World) (C : Array Value) (n c : Nat) => Lib.run_convert_bytes_const (P := Try.prog) w 22 5 C n c Try.underlying22 Try.underlying5
  have K := Lib.hid (Below.refl w.heap.size w)
  have LB := Lib.hid B10_len
  have LO := Lib.hid O10_len
  have H16 := Lib.hid O10_16
  have H17 := Lib.hid O10_17
  have H27 := Lib.hid O10_27
  rw [show inn B10 false (D16 150) (D16 1) = O10 from rfl] at C1
  unfold adr at CO4 CO6 C1 C3 C4 QA
  generalize dcells (cellsA false (D16 1)) 8001 = dc at *
  generalize cellsA false (D16 1) = DA at *
  generalize cellsA false (D16 150) = A4 at *
  generalize cellsA true (D16 150) = A6 at *
  generalize flow 5 true true = kc at *
  clear sA l5 l1 b5 b1
  go_enter Try.func7, Try.ntmps7
  go_wp2_with fail
  refine (CK.out w).mono ?_
  rintro e V1 ⟨rfl, hy⟩
  replace K := Lib.hid (K.out.trans (hy.mono K.out.size))
  clear hy
  have hal := (Below.refl V1.heap.size V1).alloc (Nat.le_refl _) (.cells #[Value.int .u8 97, .int .u8 98, .int .u8 99] 5 (3, 3 + 1))
  have RL := Lib.hid (show Rd (V1.alloc (.cells #[Value.int .u8 97, .int .u8 98, .int .u8 99] 5 (3, 3 + 1))) (.slice (some ⟨V1.heap.size, 0, none⟩) 3 3) (nus .u8 [97, 98, 99]) from rd_lit V1 .u8 5 [97, 98, 99] 3 (3, 4) rfl (by simp [maxLen]))
  go_wp2_with fail
  replace K := Lib.hid (K.out.trans (hal.mono K.out.size))
  clear hal kcv
  refine (CB.out _ _ RL.out).mono ?_
  rintro e V2 ⟨gb, cb, rfl, rb, hy⟩
  replace K := Lib.hid (K.out.trans (hy.mono K.out.size))
  have R0 := Lib.hid rb
  have RC := Lib.hid (rb.front 30 (by rw [LB.out]; omega))
  have RI := Lib.hid (rb.front 69 (by rw [LB.out]; omega))
  have h30 : (30 : Int) ≤ (cb : Int) ∧ (69 : Int) ≤ (cb : Int) := by
    obtain ⟨_, _, e1, h1, -, -⟩ := rb
    simp only [Value.slice.injEq] at e1
    obtain ⟨-, e2, rfl⟩ := e1
    rw [nus_length, LB.out] at h1
    omega
  obtain ⟨h30, h69⟩ := h30
  clear rb hy RL CB CK
  go_wp2_with fail
  refine (CD.out V2).mono ?_
  rintro e V3 ⟨rfl, hy⟩
  replace K := Lib.hid (K.out.trans (hy.mono K.out.size))
  replace R0 := Lib.hid (R0.out.below hy)
  replace RC := Lib.hid (RC.out.below hy)
  replace RI := Lib.hid (RI.out.below hy)
  clear hy
  go_wp2_with (first | ((with_reducible refine wpList_field_want (op := ⟨some 20, .field 33 (.tmp 19) 0, _, _, _, _⟩) ?wg5 33 (.tmp 19) 0 ?wo5 (.agg dc) (.agg DA) ?wx5 (FD.out _) ?_); (case wg5 => rfl); (case wo5 => rfl); (case wx5 => rfl)) | ((with_reducible refine wpList_blk_store (op := ⟨none, .store 27 (.tmp 2) (.tmp 20), _, _, _, _⟩) ?sg6 27 (.tmp 2) (.tmp 20) ?so6 (V3.heap.size) DA ?sx6 ?sy6 (Blk.new V3 27 Zc17) YA.out ZA.out AA.out ?_); (case sg6 => rfl); (case so6 => rfl); (case sx6 => rfl); (case sy6 => rfl)))
  intro V4 hA hF hB
  have hy := ((Below.refl V3.heap.size V3).alloc (Nat.le_refl _) (.cells Zc17 27)).trans (hB _ (Nat.le_refl _))
  replace K := Lib.hid (K.out.trans (hy.mono K.out.size))
  replace R0 := Lib.hid (R0.out.below hy)
  replace RC := Lib.hid (RC.out.below hy)
  replace RI := Lib.hid (RI.out.below hy)
  have ND := Lib.hid hA
  clear hA hF hB hy
  go_wp2_with fail
  refine wp_region_held (S := (fun w' : World => Below (V4.heap.size) V4 w')) (by kernel_rfl) ?_
  change wpAnyH _ _ _ _ _ _ _ _ V4.drew
  have hy : Below V4.heap.size V4 V4.drew := (Below.refl _ _).drew
  have hE0 : Below (V4.heap.size) V4 V4.drew := (Below.refl _ _).drew
  clear hy
  generalize V4.drew = Y3x0 at hE0  ⊢
  have E0 := Lib.hid hE0
  clear hE0
  refine tkA 0 (?_) ?_ E0.out ?_
  rotate_left
  · (intro w1 hS; go_simp; try with_reducible rfl)
  simp only [Act.put, tS1, tS2, tS3]
  refine tkA 3 (.agg DA) ?_ E0.out ?_
  · (intro w1 hS; have hW := hS; exact exec_load 27 (.tmp 2) rfl _ rfl _ (run_blk_load (P := Try.prog) 27 (V3.heap.size) _ (ND.out.below hW ND.out.lt) Try.underlying27 rfl ZA.out))
  simp only [Act.put, tS1, tS2, tS3]
  refine tkO 1 (fun KK hK => ?_)
  go_simp
  refine (CO4.out Y3x0).mono ?_
  rintro e Y3x1 ⟨rfl, hy⟩
  have E1 := Lib.hid (E0.out.trans (hy.mono E0.out.size))
  have C1 := Lib.hid E1.out
  clear hy E0
  refine hK.out _ _ C1.out (fun _ => ?_)
  clear hK KK
  refine wpAnyH_mono (S' := (fun w' : World => Below Y3x1.heap.size Y3x1 w')) (fun w1 h => C1.out.trans (h.mono C1.out.size)) _ _ _ _ ?_
  clear C1
  try simp only [Act.put, tS1, tS2, tS3]
  refine tkO 2 (fun KK hK => ?_)
  go_simp
  refine (CO6.out Y3x1).mono ?_
  rintro e Y3x2 ⟨rfl, hy⟩
  have E2 := Lib.hid (E1.out.trans (hy.mono E1.out.size))
  have C2 := Lib.hid hy
  clear hy E1
  refine hK.out _ _ C2.out (fun _ => ?_)
  clear hK KK
  refine wpAnyH_mono (S' := (fun w' : World => Below Y3x2.heap.size Y3x2 w')) (fun w1 h => C2.out.trans (h.mono C2.out.size)) _ _ _ _ ?_
  clear C2
  try simp only [Act.put, tS1, tS2, tS3]
  refine tkO 4 (fun KK hK => ?_)
  go_simp
  refine (C1.out Y3x2 _ (R0.out.below E2.out)).mono ?_
  rintro e Y3x3 ⟨x1, rfl, ro, hy⟩
  have E3 := Lib.hid (E2.out.trans (hy.mono E2.out.size))
  have C3 := Lib.hid hy
  have RO := Lib.hid (ro)
  obtain ⟨ao, co, eo, -, -⟩ := rd_shape RO.out
  rw [LO.out] at eo
  subst eo
  obtain ⟨bo, oo, rfl, -⟩ := RO.out.cells (by omega)
  clear ro
  clear hy E2
  refine hK.out _ _ C3.out (fun _ => ?_)
  clear hK KK
  refine wpAnyH_mono (S' := (fun w' : World => Below Y3x3.heap.size Y3x3 w')) (fun w1 h => C3.out.trans (h.mono C3.out.size)) _ _ _ _ ?_
  clear C3
  try simp only [Act.put, tS1, tS2, tS3]
  refine tkA 5 (?_) ?_ (Below.refl _ _) ?_
  rotate_left
  · (intro w1 hS; go_simp; try with_reducible rfl)
  simp only [Act.put, tS1, tS2, tS3]
  refine tkA 6 (?_) ?_ (Below.refl _ _) ?_
  rotate_left
  · (intro w1 hS; go_simp; try with_reducible rfl)
  simp only [Act.put, tS1, tS2, tS3]
  refine tkA 8 (?_) ?_ (Below.refl _ _) ?_
  rotate_left
  · (intro w1 hS; go_simp; try with_reducible rfl)
  simp only [Act.put, tS1, tS2, tS3]
  refine tkA 7 (?_) ?_ (Below.refl _ _) ?_
  rotate_left
  · (intro w1 hS; go_simp; try with_reducible rfl)
  simp only [Act.put, tS1, tS2, tS3]
  refine tkA 9 (?_) ?_ (Below.refl _ _) ?_
  rotate_left
  · (intro w1 hS; go_simp; try with_reducible rfl)
  simp only [Act.put, tS1, tS2, tS3]
  refine wpAnyH_done (by kernel_rfl) ?_ _
  have hy := E3.out
  replace K := Lib.hid (K.out.trans (hy.mono K.out.size))
  replace R0 := Lib.hid (R0.out.below hy)
  replace RC := Lib.hid (RC.out.below hy)
  replace RI := Lib.hid (RI.out.below hy)
  replace ND := Lib.hid (ND.out.below hy ND.out.lt)
  clear hy E3
  go_wp2_with fail
  refine (C2.out Y3x3 _ RO.out).mono ?_
  rintro e V5 ⟨y1, rfl, ri, hy⟩
  replace K := Lib.hid (K.out.trans (hy.mono K.out.size))
  replace R0 := Lib.hid (R0.out.below hy)
  replace RC := Lib.hid (RC.out.below hy)
  replace RI := Lib.hid (RI.out.below hy)
  replace ND := Lib.hid (ND.out.below hy ND.out.lt)
  replace RO := Lib.hid (RO.out.below hy)
  have RY := Lib.hid (ri)
  clear ri
  clear hy
  go_wp2_with (((with_reducible refine wpList_blk_store (op := ⟨none, .store 27 (.tmp 6) (.tmp 33), _, _, _, _⟩) ?sg7 27 (.tmp 6) (.tmp 33) ?so7 (V5.heap.size) DA ?sx7 ?sy7 (Blk.new V5 27 Zc17) YA.out ZA.out AA.out ?_); (case sg7 => rfl); (case so7 => rfl); (case sx7 => rfl); (case sy7 => rfl)))
  have qNDNT : V3.heap.size < V5.heap.size := ND.out.lt
  intro V6 hA hF hB
  have hy := ((Below.refl V5.heap.size V5).alloc (Nat.le_refl _) (.cells Zc17 27)).trans (hB _ (Nat.le_refl _))
  replace K := Lib.hid (K.out.trans (hy.mono K.out.size))
  replace R0 := Lib.hid (R0.out.below hy)
  replace RC := Lib.hid (RC.out.below hy)
  replace RI := Lib.hid (RI.out.below hy)
  replace ND := Lib.hid (ND.out.below hy ND.out.lt)
  replace RO := Lib.hid (RO.out.below hy)
  replace RY := Lib.hid (RY.out.below hy)
  have NT := Lib.hid hA
  clear hA hF hB hy
  go_wp2_with fail
  refine wp_region_held (S := (fun w' : World => Below (V6.heap.size) V6 w')) (by kernel_rfl) ?_
  change wpAnyH _ _ _ _ _ _ _ _ V6.drew
  have hy : Below V6.heap.size V6 V6.drew := (Below.refl _ _).drew
  have hE0 : Below (V6.heap.size) V6 V6.drew := (Below.refl _ _).drew
  clear hy
  generalize V6.drew = Y5x0 at hE0  ⊢
  have E0 := Lib.hid hE0
  clear hE0
  refine tkA 0 (?_) ?_ E0.out ?_
  rotate_left
  · (intro w1 hS; go_simp; try with_reducible rfl)
  simp only [Act.put, tS1, tS2, tS3]
  refine tkA 3 (.agg DA) ?_ E0.out ?_
  · (intro w1 hS; have hW := hS; exact exec_load 27 (.tmp 2) rfl _ rfl _ (run_blk_load (P := Try.prog) 27 (V3.heap.size) _ (ND.out.below hW ND.out.lt) Try.underlying27 rfl ZA.out))
  simp only [Act.put, tS1, tS2, tS3]
  refine tkO 1 (fun KK hK => ?_)
  go_simp
  refine (CO6.out Y5x0).mono ?_
  rintro e Y5x1 ⟨rfl, hy⟩
  have E1 := Lib.hid (E0.out.trans (hy.mono E0.out.size))
  have C1 := Lib.hid E1.out
  clear hy E0
  refine hK.out _ _ C1.out (fun _ => ?_)
  clear hK KK
  refine wpAnyH_mono (S' := (fun w' : World => Below Y5x1.heap.size Y5x1 w')) (fun w1 h => C1.out.trans (h.mono C1.out.size)) _ _ _ _ ?_
  clear C1
  try simp only [Act.put, tS1, tS2, tS3]
  refine tkO 2 (fun KK hK => ?_)
  go_simp
  refine (CO6.out Y5x1).mono ?_
  rintro e Y5x2 ⟨rfl, hy⟩
  have E2 := Lib.hid (E1.out.trans (hy.mono E1.out.size))
  have C2 := Lib.hid hy
  clear hy E1
  refine hK.out _ _ C2.out (fun _ => ?_)
  clear hK KK
  refine wpAnyH_mono (S' := (fun w' : World => Below Y5x2.heap.size Y5x2 w')) (fun w1 h => C2.out.trans (h.mono C2.out.size)) _ _ _ _ ?_
  clear C2
  try simp only [Act.put, tS1, tS2, tS3]
  refine tkO 4 (fun KK hK => ?_)
  go_simp
  refine (C3.out Y5x2 _ (R0.out.below E2.out)).mono ?_
  rintro e Y5x3 ⟨rfl, hy⟩
  have E3 := Lib.hid (E2.out.trans (hy.mono E2.out.size))
  have C3 := Lib.hid hy
  clear hy E2
  refine hK.out _ _ C3.out (fun _ => ?_)
  clear hK KK
  refine wpAnyH_mono (S' := (fun w' : World => Below Y5x3.heap.size Y5x3 w')) (fun w1 h => C3.out.trans (h.mono C3.out.size)) _ _ _ _ ?_
  clear C3
  try simp only [Act.put, tS1, tS2, tS3]
  refine tkA 5 (?_) ?_ (Below.refl _ _) ?_
  rotate_left
  · (intro w1 hS; go_simp; try with_reducible rfl)
  simp only [Act.put, tS1, tS2, tS3]
  refine tkA 6 (?_) ?_ (Below.refl _ _) ?_
  rotate_left
  · (intro w1 hS; go_simp; try with_reducible rfl)
  simp only [Act.put, tS1, tS2, tS3]
  refine tkA 8 (?_) ?_ (Below.refl _ _) ?_
  rotate_left
  · (intro w1 hS; go_simp; try with_reducible rfl)
  simp only [Act.put, tS1, tS2, tS3]
  refine tkA 7 (?_) ?_ (Below.refl _ _) ?_
  rotate_left
  · (intro w1 hS; go_simp; try with_reducible rfl)
  simp only [Act.put, tS1, tS2, tS3]
  refine tkA 9 (?_) ?_ (Below.refl _ _) ?_
  rotate_left
  · (intro w1 hS; go_simp; try with_reducible rfl)
  simp only [Act.put, tS1, tS2, tS3]
  refine wpAnyH_done (by kernel_rfl) ?_ _
  have hy := E3.out
  replace K := Lib.hid (K.out.trans (hy.mono K.out.size))
  replace R0 := Lib.hid (R0.out.below hy)
  replace RC := Lib.hid (RC.out.below hy)
  replace RI := Lib.hid (RI.out.below hy)
  replace ND := Lib.hid (ND.out.below hy ND.out.lt)
  replace RO := Lib.hid (RO.out.below hy)
  replace RY := Lib.hid (RY.out.below hy)
  replace NT := Lib.hid (NT.out.below hy NT.out.lt)
  clear hy E3
  go_wp2_with fail
  refine wp_region_held (S := (fun w' : World => Below (Y5x3.heap.size) Y5x3 w')) (by kernel_rfl) ?_
  change wpAnyH _ _ _ _ _ _ _ _ Y5x3.drew
  have hy : Below Y5x3.heap.size Y5x3 Y5x3.drew := (Below.refl _ _).drew
  have hE0 : Below (Y5x3.heap.size) Y5x3 Y5x3.drew := (Below.refl _ _).drew
  clear hy
  generalize Y5x3.drew = Y6x0 at hE0  ⊢
  have E0 := Lib.hid hE0
  clear hE0
  refine tkA 0 (?_) ?_ E0.out ?_
  rotate_left
  · (intro w1 hS; go_simp; try with_reducible rfl)
  simp only [Act.put, tS1, tS2, tS3]
  refine tkA 1 (?_) ?_ E0.out ?_
  rotate_left
  · (intro w1 hS; have hW := hS; have q := h30; clear hW hS; go_simp; try with_reducible rfl)
  simp only [Act.put, tS1, tS2, tS3]
  refine tkA 4 (.agg DA) ?_ E0.out ?_
  · (intro w1 hS; have hW := hS; exact exec_load 27 (.tmp 2) rfl _ rfl _ (run_blk_load (P := Try.prog) 27 (V3.heap.size) _ (ND.out.below hW ND.out.lt) Try.underlying27 rfl ZA.out))
  simp only [Act.put, tS1, tS2, tS3]
  refine tkO 2 (fun KK hK => ?_)
  go_simp
  refine (CO4.out Y6x0).mono ?_
  rintro e Y6x1 ⟨rfl, hy⟩
  have E1 := Lib.hid (E0.out.trans (hy.mono E0.out.size))
  have C1 := Lib.hid E1.out
  clear hy E0
  refine hK.out _ _ C1.out (fun _ => ?_)
  clear hK KK
  refine wpAnyH_mono (S' := (fun w' : World => Below Y6x1.heap.size Y6x1 w')) (fun w1 h => C1.out.trans (h.mono C1.out.size)) _ _ _ _ ?_
  clear C1
  try simp only [Act.put, tS1, tS2, tS3]
  refine tkO 3 (fun KK hK => ?_)
  go_simp
  refine (CO6.out Y6x1).mono ?_
  rintro e Y6x2 ⟨rfl, hy⟩
  have E2 := Lib.hid (E1.out.trans (hy.mono E1.out.size))
  have C2 := Lib.hid hy
  clear hy E1
  refine hK.out _ _ C2.out (fun _ => ?_)
  clear hK KK
  refine wpAnyH_mono (S' := (fun w' : World => Below Y6x2.heap.size Y6x2 w')) (fun w1 h => C2.out.trans (h.mono C2.out.size)) _ _ _ _ ?_
  clear C2
  try simp only [Act.put, tS1, tS2, tS3]
  refine tkO 5 (fun KK hK => ?_)
  go_simp
  refine (C4.out Y6x2 _ (RC.out.below E2.out)).mono ?_
  rintro e Y6x3 ⟨rfl, hy⟩
  have E3 := Lib.hid (E2.out.trans (hy.mono E2.out.size))
  have C3 := Lib.hid hy
  clear hy E2
  refine hK.out _ _ C3.out (fun _ => ?_)
  clear hK KK
  refine wpAnyH_mono (S' := (fun w' : World => Below Y6x3.heap.size Y6x3 w')) (fun w1 h => C3.out.trans (h.mono C3.out.size)) _ _ _ _ ?_
  clear C3
  try simp only [Act.put, tS1, tS2, tS3]
  refine tkA 6 (?_) ?_ (Below.refl _ _) ?_
  rotate_left
  · (intro w1 hS; go_simp; try with_reducible rfl)
  simp only [Act.put, tS1, tS2, tS3]
  refine tkA 7 (?_) ?_ (Below.refl _ _) ?_
  rotate_left
  · (intro w1 hS; go_simp; try with_reducible rfl)
  simp only [Act.put, tS1, tS2, tS3]
  refine tkA 9 (?_) ?_ (Below.refl _ _) ?_
  rotate_left
  · (intro w1 hS; go_simp; try with_reducible rfl)
  simp only [Act.put, tS1, tS2, tS3]
  refine tkA 8 (?_) ?_ (Below.refl _ _) ?_
  rotate_left
  · (intro w1 hS; go_simp; try with_reducible rfl)
  simp only [Act.put, tS1, tS2, tS3]
  refine tkA 10 (?_) ?_ (Below.refl _ _) ?_
  rotate_left
  · (intro w1 hS; go_simp; try with_reducible rfl)
  simp only [Act.put, tS1, tS2, tS3]
  refine wpAnyH_done (by kernel_rfl) ?_ _
  have hy := E3.out
  replace K := Lib.hid (K.out.trans (hy.mono K.out.size))
  replace R0 := Lib.hid (R0.out.below hy)
  replace RC := Lib.hid (RC.out.below hy)
  replace RI := Lib.hid (RI.out.below hy)
  replace ND := Lib.hid (ND.out.below hy ND.out.lt)
  replace RO := Lib.hid (RO.out.below hy)
  replace RY := Lib.hid (RY.out.below hy)
  replace NT := Lib.hid (NT.out.below hy NT.out.lt)
  clear hy E3
  go_wp2_with fail
  refine (C5.out Y6x3 _ R0.out).mono ?_
  rintro e V7 ⟨rfl, hy⟩
  replace K := Lib.hid (K.out.trans (hy.mono K.out.size))
  replace R0 := Lib.hid (R0.out.below hy)
  replace RC := Lib.hid (RC.out.below hy)
  replace RI := Lib.hid (RI.out.below hy)
  replace ND := Lib.hid (ND.out.below hy ND.out.lt)
  replace RO := Lib.hid (RO.out.below hy)
  replace RY := Lib.hid (RY.out.below hy)
  replace NT := Lib.hid (NT.out.below hy NT.out.lt)
  clear hy
  go_wp2_with (((with_reducible refine wpList_blk_store (op := ⟨none, .store 27 (.tmp 13) (.tmp 56), _, _, _, _⟩) ?sg8 27 (.tmp 13) (.tmp 56) ?so8 (V7.heap.size) z17 ?sx8 ?sy8 (Blk.new V7 27 Zc17) Y0.out Q0.out A0.out ?_); (case sg8 => rfl); (case so8 => rfl); (case sx8 => rfl); (case sy8 => rfl)))
  have qNDNZ : V3.heap.size < V7.heap.size := ND.out.lt
  have qNTNZ : V5.heap.size < V7.heap.size := NT.out.lt
  intro V8 hA hF hB
  have hy := ((Below.refl V7.heap.size V7).alloc (Nat.le_refl _) (.cells Zc17 27)).trans (hB _ (Nat.le_refl _))
  replace K := Lib.hid (K.out.trans (hy.mono K.out.size))
  replace R0 := Lib.hid (R0.out.below hy)
  replace RC := Lib.hid (RC.out.below hy)
  replace RI := Lib.hid (RI.out.below hy)
  replace ND := Lib.hid (ND.out.below hy ND.out.lt)
  replace RO := Lib.hid (RO.out.below hy)
  replace RY := Lib.hid (RY.out.below hy)
  replace NT := Lib.hid (NT.out.below hy NT.out.lt)
  have NZ := Lib.hid hA
  clear hA hF hB hy
  go_wp2_with fail
  obtain ⟨_, _, ec, hco⟩ := RO.out.cells (by omega)
  simp only [Option.some.injEq, Addr.mk.injEq, and_true] at ec
  obtain ⟨rfl, rfl⟩ := ec
  have c16 := hco 16 (by omega)
  have c17 := hco 17 (by omega)
  have c27 := hco 27 (by omega)
  rw [H16.out] at c16
  rw [H17.out] at c17
  rw [H27.out] at c27
  clear hco
  have hbo := rd_cell c16
  go_wp2_with fail
  refine wp_region_held (S := (fun w' : World => Below (V8.heap.size) V8 w')) (by kernel_rfl) ?_
  change wpAnyH _ _ _ _ _ _ _ _ V8.drew
  have hy : Below V8.heap.size V8 V8.drew := (Below.refl _ _).drew
  have hE0 : Below (V8.heap.size) V8 V8.drew := (Below.refl _ _).drew
  clear hy
  generalize V8.drew = Y8x0 at hE0  ⊢
  have E0 := Lib.hid hE0
  clear hE0
  refine tkA 0 (?_) ?_ E0.out ?_
  rotate_left
  · (intro w1 hS; go_simp; try with_reducible rfl)
  simp only [Act.put, tS1, tS2, tS3]
  refine tkA 1 (?_) ?_ E0.out ?_
  rotate_left
  · (intro w1 hS; go_simp; try with_reducible rfl)
  simp only [Act.put, tS1, tS2, tS3]
  refine tkA 2 (?_) ?_ E0.out ?_
  rotate_left
  · (intro w1 hS; go_simp; try with_reducible rfl)
  simp only [Act.put, tS1, tS2, tS3]
  refine tkA 3 (?_) ?_ E0.out ?_
  rotate_left
  · (intro w1 hS; go_simp; try with_reducible rfl)
  simp only [Act.put, tS1, tS2, tS3]
  refine tkA 4 (?_) ?_ E0.out ?_
  rotate_left
  · (intro w1 hS; go_simp; try with_reducible rfl)
  simp only [Act.put, tS1, tS2, tS3]
  refine tkA 5 (?_) ?_ E0.out ?_
  rotate_left
  · (intro w1 hS; go_simp; try with_reducible rfl)
  simp only [Act.put, tS1, tS2, tS3]
  refine tkA 6 (?_) ?_ E0.out ?_
  rotate_left
  · (intro w1 hS; go_simp; try with_reducible rfl)
  simp only [Act.put, tS1, tS2, tS3]
  refine tkA 7 (?_) ?_ E0.out ?_
  rotate_left
  · (intro w1 hS; go_simp; try with_reducible rfl)
  simp only [Act.put, tS1, tS2, tS3]
  refine tkA 8 (?_) ?_ E0.out ?_
  rotate_left
  · (intro w1 hS; go_simp; try with_reducible rfl)
  simp only [Act.put, tS1, tS2, tS3]
  refine tkA 9 (?_) ?_ E0.out ?_
  rotate_left
  · (intro w1 hS; go_simp; try with_reducible rfl)
  simp only [Act.put, tS1, tS2, tS3]
  refine tkA 10 (?_) ?_ E0.out ?_
  rotate_left
  · (intro w1 hS; go_simp; try with_reducible rfl)
  simp only [Act.put, tS1, tS2, tS3]
  refine tkA 11 (?_) ?_ E0.out ?_
  rotate_left
  · (intro w1 hS; go_simp; try with_reducible rfl)
  simp only [Act.put, tS1, tS2, tS3]
  refine tkA 12 (?_) ?_ E0.out ?_
  rotate_left
  · (intro w1 hS; go_simp; try with_reducible rfl)
  simp only [Act.put, tS1, tS2, tS3]
  refine tkA 13 (?_) ?_ E0.out ?_
  rotate_left
  · (intro w1 hS; go_simp; try with_reducible rfl)
  simp only [Act.put, tS1, tS2, tS3]
  refine tkA 14 (?_) ?_ E0.out ?_
  rotate_left
  · (intro w1 hS; have hW := hS; have q := (hW.cell (p := ⟨bo, oo + 16, none⟩) hbo).trans c16; clear hW hS; go_simp; try with_reducible rfl)
  simp only [Act.put, tS1, tS2, tS3]
  refine tkA 15 (?_) ?_ E0.out ?_
  rotate_left
  · (intro w1 hS; go_simp; try with_reducible rfl)
  simp only [Act.put, tS1, tS2, tS3]
  refine tkA 16 (?_) ?_ E0.out ?_
  rotate_left
  · (intro w1 hS; go_simp; try with_reducible rfl)
  simp only [Act.put, tS1, tS2, tS3]
  refine tkA 17 (?_) ?_ E0.out ?_
  rotate_left
  · (intro w1 hS; go_simp; try with_reducible rfl)
  simp only [Act.put, tS1, tS2, tS3]
  refine tkA 18 (?_) ?_ E0.out ?_
  rotate_left
  · (intro w1 hS; go_simp; try with_reducible rfl)
  simp only [Act.put, tS1, tS2, tS3]
  refine tkA 19 (?_) ?_ E0.out ?_
  rotate_left
  · (intro w1 hS; go_simp; try with_reducible rfl)
  simp only [Act.put, tS1, tS2, tS3]
  refine tkA 20 (?_) ?_ E0.out ?_
  rotate_left
  · (intro w1 hS; have hW := hS; have q := (hW.cell (p := ⟨bo, oo + 17, none⟩) hbo).trans c17; clear hW hS; go_simp; try with_reducible rfl)
  simp only [Act.put, tS1, tS2, tS3]
  refine tkA 21 (?_) ?_ E0.out ?_
  rotate_left
  · (intro w1 hS; go_simp; try with_reducible rfl)
  simp only [Act.put, tS1, tS2, tS3]
  refine tkA 22 (?_) ?_ E0.out ?_
  rotate_left
  · (intro w1 hS; go_simp; try with_reducible rfl)
  simp only [Act.put, tS1, tS2, tS3]
  refine tkA 23 (?_) ?_ E0.out ?_
  rotate_left
  · (intro w1 hS; go_simp; try with_reducible rfl)
  simp only [Act.put, tS1, tS2, tS3]
  refine tkA 24 (?_) ?_ E0.out ?_
  rotate_left
  · (intro w1 hS; go_simp; try with_reducible rfl)
  simp only [Act.put, tS1, tS2, tS3]
  refine tkA 25 (?_) ?_ E0.out ?_
  rotate_left
  · (intro w1 hS; go_simp; try with_reducible rfl)
  simp only [Act.put, tS1, tS2, tS3]
  refine tkA 26 (?_) ?_ E0.out ?_
  rotate_left
  · (intro w1 hS; have hW := hS; have q := (hW.cell (p := ⟨bo, oo + 27, none⟩) hbo).trans c27; clear hW hS; go_simp; try with_reducible rfl)
  simp only [Act.put, tS1, tS2, tS3]
  refine tkA 27 (?_) ?_ E0.out ?_
  rotate_left
  · (intro w1 hS; go_simp; try with_reducible rfl)
  simp only [Act.put, tS1, tS2, tS3]
  refine tkA 28 (?_) ?_ E0.out ?_
  rotate_left
  · (intro w1 hS; go_simp; try with_reducible rfl)
  simp only [Act.put, tS1, tS2, tS3]
  refine tkA 29 (?_) ?_ E0.out ?_
  rotate_left
  · (intro w1 hS; go_simp; try with_reducible rfl)
  simp only [Act.put, tS1, tS2, tS3]
  refine tkA 30 (?_) ?_ E0.out ?_
  rotate_left
  · (intro w1 hS; go_simp; try with_reducible rfl)
  simp only [Act.put, tS1, tS2, tS3]
  refine tkA 31 (?_) ?_ E0.out ?_
  rotate_left
  · (intro w1 hS; go_simp; try with_reducible rfl)
  simp only [Act.put, tS1, tS2, tS3]
  refine tkA 32 (?_) ?_ E0.out ?_
  rotate_left
  · (intro w1 hS; go_simp; try with_reducible rfl)
  simp only [Act.put, tS1, tS2, tS3]
  refine tkA 33 (.agg DA) ?_ E0.out ?_
  · (intro w1 hS; have hW := hS; exact exec_load 27 (.tmp 6) rfl _ rfl _ (run_blk_load (P := Try.prog) 27 (V5.heap.size) _ (NT.out.below hW NT.out.lt) Try.underlying27 rfl ZA.out))
  simp only [Act.put, tS1, tS2, tS3]
  refine tkA 34 (.agg DA) ?_ E0.out ?_
  · (intro w1 hS; have hW := hS; exact exec_load 27 (.tmp 2) rfl _ rfl _ (run_blk_load (P := Try.prog) 27 (V3.heap.size) _ (ND.out.below hW ND.out.lt) Try.underlying27 rfl ZA.out))
  simp only [Act.put, tS1, tS2, tS3]
  refine tkA 35 (?_) ?_ E0.out ?_
  rotate_left
  · (intro w1 hS; have hW := hS; have q := QA.out; clear hW hS; go_simp; try with_reducible rfl)
  simp only [Act.put, tS1, tS2, tS3]
  refine tkA 36 (?_) ?_ E0.out ?_
  rotate_left
  · (intro w1 hS; go_simp; try with_reducible rfl)
  simp only [Act.put, tS1, tS2, tS3]
  refine tkA 37 (?_) ?_ E0.out ?_
  rotate_left
  · (intro w1 hS; go_simp; try with_reducible rfl)
  simp only [Act.put, tS1, tS2, tS3]
  refine tkA 38 (?_) ?_ E0.out ?_
  rotate_left
  · (intro w1 hS; go_simp; try with_reducible rfl)
  simp only [Act.put, tS1, tS2, tS3]
  refine tkA 39 (?_) ?_ E0.out ?_
  rotate_left
  · (intro w1 hS; have hW := hS; have q := conv_rd w1 22 9 5 Try.underlying22 Try.underlying5 Try.underlying9 _ _ (RY.out.below hW); clear hW hS; go_simp; try with_reducible rfl)
  simp only [Act.put, tS1, tS2, tS3]
  refine tkA 40 (?_) ?_ E0.out ?_
  rotate_left
  · (intro w1 hS; go_simp; try with_reducible rfl)
  simp only [Act.put, tS1, tS2, tS3]
  refine tkA 41 (?_) ?_ E0.out ?_
  rotate_left
  · (intro w1 hS; go_simp; try with_reducible rfl)
  simp only [Act.put, tS1, tS2, tS3]
  refine tkA 42 (?_) ?_ E0.out ?_
  rotate_left
  · (intro w1 hS; go_simp; try with_reducible rfl)
  simp only [Act.put, tS1, tS2, tS3]
  refine tkA 43 (?_) ?_ E0.out ?_
  rotate_left
  · (intro w1 hS; go_simp; try with_reducible rfl)
  simp only [Act.put, tS1, tS2, tS3]
  refine tkA 44 (?_) ?_ E0.out ?_
  rotate_left
  · (intro w1 hS; have hW := hS; have q := h69; have q2 : IntKind.i64.wrap 69 = 69 := (by decide); clear hW hS; go_simp; try with_reducible rfl)
  simp only [Act.put, tS1, tS2, tS3]
  refine tkA 45 (?_) ?_ E0.out ?_
  rotate_left
  · (intro w1 hS; have hW := hS; have q := conv_rd w1 22 9 5 Try.underlying22 Try.underlying5 Try.underlying9 _ _ (RI.out.below hW); clear hW hS; go_simp; try with_reducible rfl)
  simp only [Act.put, tS1, tS2, tS3]
  refine tkA 46 (?_) ?_ E0.out ?_
  rotate_left
  · (intro w1 hS; go_simp; try with_reducible rfl)
  simp only [Act.put, tS1, tS2, tS3]
  refine tkA 47 (?_) ?_ E0.out ?_
  rotate_left
  · (intro w1 hS; go_simp; try with_reducible rfl)
  simp only [Act.put, tS1, tS2, tS3]
  refine tkA 48 (?_) ?_ E0.out ?_
  rotate_left
  · (intro w1 hS; go_simp; try with_reducible rfl)
  simp only [Act.put, tS1, tS2, tS3]
  refine tkA 49 (?_) ?_ E0.out ?_
  rotate_left
  · (intro w1 hS; go_simp; try with_reducible rfl)
  simp only [Act.put, tS1, tS2, tS3]
  refine tkA 50 (?_) ?_ E0.out ?_
  rotate_left
  · (intro w1 hS; go_simp; try with_reducible rfl)
  simp only [Act.put, tS1, tS2, tS3]
  refine tkA 51 (?_) ?_ E0.out ?_
  rotate_left
  · (intro w1 hS; go_simp; try with_reducible rfl)
  simp only [Act.put, tS1, tS2, tS3]
  refine tkA 52 (?_) ?_ E0.out ?_
  rotate_left
  · (intro w1 hS; go_simp; try with_reducible rfl)
  simp only [Act.put, tS1, tS2, tS3]
  refine tkA 53 (?_) ?_ E0.out ?_
  rotate_left
  · (intro w1 hS; go_simp; try with_reducible rfl)
  simp only [Act.put, tS1, tS2, tS3]
  refine tkA 54 (?_) ?_ E0.out ?_
  rotate_left
  · (intro w1 hS; go_simp; try with_reducible rfl)
  simp only [Act.put, tS1, tS2, tS3]
  refine tkA 55 (?_) ?_ E0.out ?_
  rotate_left
  · (intro w1 hS; go_simp; try with_reducible rfl)
  simp only [Act.put, tS1, tS2, tS3]
  refine tkA 56 (?_) ?_ E0.out ?_
  rotate_left
  · (intro w1 hS; go_simp; try with_reducible rfl)
  simp only [Act.put, tS1, tS2, tS3]
  refine tkA 57 (?_) ?_ E0.out ?_
  rotate_left
  · (intro w1 hS; go_simp; try with_reducible rfl)
  simp only [Act.put, tS1, tS2, tS3]
  refine tkA 58 (?_) ?_ E0.out ?_
  rotate_left
  · (intro w1 hS; go_simp; try with_reducible rfl)
  simp only [Act.put, tS1, tS2, tS3]
  refine tkA 59 (?_) ?_ E0.out ?_
  rotate_left
  · (intro w1 hS; go_simp; try with_reducible rfl)
  simp only [Act.put, tS1, tS2, tS3]
  refine tkA 60 (?_) ?_ E0.out ?_
  rotate_left
  · (intro w1 hS; go_simp; try with_reducible rfl)
  simp only [Act.put, tS1, tS2]
  refine wpAnyH_done (by kernel_rfl) ?_ _
  have hy := E0.out
  replace K := Lib.hid (K.out.trans (hy.mono K.out.size))
  replace R0 := Lib.hid (R0.out.below hy)
  replace RC := Lib.hid (RC.out.below hy)
  replace RI := Lib.hid (RI.out.below hy)
  replace ND := Lib.hid (ND.out.below hy ND.out.lt)
  replace RO := Lib.hid (RO.out.below hy)
  replace RY := Lib.hid (RY.out.below hy)
  replace NT := Lib.hid (NT.out.below hy NT.out.lt)
  replace NZ := Lib.hid (NZ.out.below hy NZ.out.lt)
  clear hy E0
  go_wp2
  go_ret
  exact ⟨rfl, K.out⟩
end Go.Proofs.Ytnpibdjfafpegaa
