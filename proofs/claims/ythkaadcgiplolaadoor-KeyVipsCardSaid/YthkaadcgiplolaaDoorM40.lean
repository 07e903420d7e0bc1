/- Texts that the walks of this seat lean on, put together. -/
import Derived.Test.YthkaadcgiplolaaDoorTk
import Derived.Test.YthkaadcgiplolaaDoorM36
import Derived.Test.YthkaadcgiplolaaDoorM38
import Derived.Test.YthkaadcgiplolaaDoorM39
namespace Go.Proofs.YthkaadcgiplolaaDoor
open Go.RowKit Go.Lib
def kflow (n : Int) (v udp : Bool) : Fl := ⟨if udp then 17 else 6, v, kS (n % 1073741824).toNat ++ List.replicate 12 0, v, kD ++ List.replicate 12 0, 1000 + (n % 1073741824).toNat % 50000, 80⟩
theorem flow_any (n : Int) (v udp : Bool) (w : World) : Calls Tryd.prog 21 #[.int .i64 n, .bool v, .bool udp] w fun e w' => e = .returned (.agg (kflow n v udp).cs) ∧ Below w.heap.size w w' := key_any n v udp w
theorem kflow_fit (n : Int) (v udp : Bool) : (kflow n v udp).Fit := by
  refine ⟨?_, ?_, ?_, ?_, ?_, ?_, ?_⟩
  · unfold kflow; simp only; split <;> omega
  · unfold kflow kS; simp
  · unfold kflow kD; simp
  · unfold kflow kS
    intro c hc
    simp at hc
    omega
  · unfold kflow kD
    intro c hc
    simp at hc
    omega
  · unfold kflow; simp only; omega
  · unfold kflow; simp only; omega
theorem kflow_vK (n : Int) (v udp : Bool) : vK (kflow n v udp) = true := by
  unfold kflow kS kD vK
  generalize (n % 1073741824).toNat / 65536 % 256 = a
  generalize (n % 1073741824).toNat / 256 % 256 = b
  generalize (n % 1073741824).toNat % 256 = c
  cases v <;> cases udp <;> rfl
def kA : Fl := kflow 5 false false
theorem kA_fit : kA.Fit := kflow_fit _ _ _
theorem kA_v : vK kA = true := kflow_vK _ _ _
def B14 : List Nat := [6, 4, 10, 0, 0, 5, 192, 168, 0, 1, 3, 237, 0, 80]
theorem kA_b : bK kA = B14 := by kernel_rfl
theorem B14_ok : okF B14 = true ∧ fcs B14 = kA.cs := by
  obtain ⟨h1, h2⟩ := back_ok kA kA_fit kA_v
  rw [kA_b] at h1 h2
  exact ⟨h1, by unfold fcs; rw [h1, if_pos rfl, h2]⟩
theorem B14_no : okF (B14.drop 1) = false := by kernel_rfl
theorem B14_lt : ∀ c ∈ B14, c < 256 := by decide
theorem kA_t : tK kA = [116, 99, 112, 32, 49, 48, 46, 48, 46, 48, 46, 53, 58, 49, 48, 48, 53, 32, 62, 32, 49, 57, 50, 46, 49, 54, 56, 46, 48, 46, 49, 58, 56, 48] := by
  unfold tK
  rw [kA_v, if_pos rfl]
  have e1 : decDigits 10 = [49, 48] := by simp [decDigits]
  have e2 : decDigits 0 = [48] := by simp [decDigits]
  have e3 : decDigits 5 = [53] := by simp [decDigits]
  have e4 : decDigits 1005 = [49, 48, 48, 53] := by simp [decDigits]
  have e5 : decDigits 192 = [49, 57, 50] := by simp [decDigits]
  have e6 : decDigits 168 = [49, 54, 56] := by simp [decDigits]
  have e7 : decDigits 1 = [49] := by simp [decDigits]
  have e8 : decDigits 80 = [56, 48] := by simp [decDigits]
  have h1 : textA kA.sv kA.S = decDigits 10 ++ 46 :: (decDigits 0 ++ 46 :: (decDigits 0 ++ 46 :: decDigits 5)) := by kernel_rfl
  have h2 : textA kA.dv kA.D = decDigits 192 ++ 46 :: (decDigits 168 ++ 46 :: (decDigits 0 ++ 46 :: decDigits 1)) := by kernel_rfl
  have h3 : kA.sp = 1005 := by kernel_rfl
  have h4 : kA.dp = 80 := rfl
  have h5 : pnB kA.p = ⟨#[116, 99, 112]⟩ := rfl
  unfold tR endT
  rw [h1, h2, h3, h4, h5, e1, e2, e3, e4, e5, e6, e7, e8]
  rfl
set_option maxRecDepth 100000 in
set_option maxHeartbeats 8000000 in
theorem awake_any (w : World) (hE : Env w) : Calls Tryd.prog 8 #[] w fun e w' => e = .returned (.bool true) ∧ Below w.heap.size w w' := by
  have K := Lib.hid (Below.refl w.heap.size w)
  have HE := Lib.hid hE
  have CK := Lib.hid (show ∀ W, Calls Tryd.prog 21 #[.int .i64 5, .bool false, .bool false] W fun e w' => e = .returned (.agg kA.cs) ∧ Below W.heap.size W w' from fun W => flow_any 5 false false W)
  have CB := Lib.hid (show ∀ W, Calls Tryd.prog 13 #[.agg kA.cs] W fun e w' => ∃ x, e = .returned x ∧ Rd w' x (nus .u8 B14) ∧ Below W.heap.size W w' from fun W => by rw [← kA_b]; exact kbytes_any kA kA_fit W)
  have CF1 := Lib.hid (show ∀ W z, Rd W z (nus .u8 B14) → Calls Tryd.prog 9 #[z] W fun e w' => e = .returned (.tuple #[.agg kA.cs, .int .i64 0]) ∧ Below W.heap.size W w' from fun W z h => by
    have q := kfrom_any z B14 W h B14_lt
    rw [B14_ok.1, B14_ok.2] at q
    exact q)
  have CF2 := Lib.hid (show ∀ W z, Rd W z (nus .u8 (B14.drop 1)) → Calls Tryd.prog 9 #[z] W fun e w' => e = .returned (.tuple #[.agg k0.cs, .int .i64 2]) ∧ Below W.heap.size W w' from fun W z h => by
    have q := kfrom_any z (B14.drop 1) W h (fun c hc => B14_lt c (List.mem_of_mem_drop hc))
    unfold fcs at q
    rw [B14_no] at q
    exact q)
  have CT := Lib.hid (show ∀ W, Env W → Calls Tryd.prog 19 #[.agg kA.cs] W fun e w' => e = .returned (.string ⟨#[116, 99, 112, 32, 49, 48, 46, 48, 46, 48, 46, 53, 58, 49, 48, 48, 53, 32, 62, 32, 49, 57, 50, 46, 49, 54, 56, 46, 48, 46, 49, 58, 56, 48]⟩) ∧ Below W.heap.size W w' from fun W hW => by
    have q := ktext_any kA kA_fit W hW
    rw [kA_t] at q
    exact q)
  have CP := Lib.hid (fun W => kvip_any kA kA_fit W)
  have CV1 := Lib.hid (fun W => kvalid_any kA kA_fit W)
  rw [kA_v] at CV1
  have CV0 := Lib.hid (show ∀ W, Calls Tryd.prog 11 #[.agg ZcK] W fun e w' => e = .returned (.bool false) ∧ Below W.heap.size W w' from fun W => kvalid_any k0 k0_fit W)
  have CC := Lib.hid (show ∀ W, Calls Tryd.prog 15 #[.agg kA.cs, .agg kA.cs] W fun e w' => e = .returned (.int .i64 0) ∧ Below W.heap.size W w' from fun W => by
    have q := kcmp_any kA kA kA_fit kA_fit W
    rw [(cmpN_zero _ _ (bK_lt kA kA_fit) (bK_lt kA kA_fit)).2 rfl] at q
    exact q)
  have EQ := Lib.hid (fun W => eq_fl_yes kA kA_fit W)
  have EV := Lib.hid (fun W => eq_vip_yes kA kA kA_fit kA_fit rfl rfl rfl rfl W)
  have sA := kA.cs_size kA_fit
  have YK : Hid (kA.cs.size = Array.size (ZcK : Array Value)) := sA
  have QK := Lib.hid (i42.trans (congrArg some sA.symm))
  have AK := Lib.hid kA.cs_all
  have s0 := k0.cs_size k0_fit
  have Y0 : Hid (k0.cs.size = Array.size (ZcK : Array Value)) := s0
  have Q0 := Lib.hid (i42.trans (congrArg some s0.symm))
  have A0 := Lib.hid k0.cs_all
  have BV := Lib.hid (show Tryd.prog.built 39 #[(0, .int .u8 6), (1, .agg (cellsA kA.dv kA.D)), (2, .int .u16 80)].toList = some (vipc kA) from vcs_built 6 (cellsA kA.dv kA.D) 80 rfl)
  have KP2 := Lib.hid (fl_dst kA kA_fit)
  have ID := Lib.hid (fl_id kA kA_fit)
  have IK := Lib.hid (fl_ik kA kA_fit)
  generalize vipc kA = vc at *
  generalize kA.cs = kc at *
  generalize k0.cs = kz at *
  generalize cellsA kA.dv kA.D = D at *
  have LB : Hid (B14.length = 14) := rfl
  have B0 : Hid (B14.getD 0 0 = 6) := rfl
  have B1 : Hid (B14.getD 1 0 = 4) := rfl
  clear hE sA s0
  generalize B14 = BB at *
  go_enter Tryd.func8, Tryd.ntmps8
  go_wp2_with fail
  refine (CK.out w).mono ?_
  rintro e V1 ⟨rfl, hy⟩
  replace K := Lib.hid (K.out.trans (hy.mono K.out.size))
  clear hy
  go_wp2_with (((with_reducible refine wpList_blk_store (op := ⟨none, .store 27 (.tmp 1) (.tmp 7), _, _, _, _⟩) ?sg1 27 (.tmp 1) (.tmp 7) ?so1 (V1.heap.size) kc ?sx1 ?sy1 (Blk.new V1 27 ZcK) YK.out QK.out AK.out ?_); (case sg1 => rfl); (case so1 => rfl); (case sx1 => rfl); (case sy1 => rfl)))
  intro V2 hA hF hB
  have hy := ((Below.refl V1.heap.size V1).alloc (Nat.le_refl _) (.cells ZcK 27)).trans (hB _ (Nat.le_refl _))
  replace K := Lib.hid (K.out.trans (hy.mono K.out.size))
  have NK := Lib.hid hA
  clear hA hF hB hy
  have L2 : (loadVar 27 ⟨V1.heap.size, 0, none⟩).run Tryd.prog V2 = .ok (.agg kc) V2 := run_blk_load (P := Tryd.prog) 27 (V1.heap.size) _ NK.out Tryd.underlying27 rfl QK.out
  replace L2 := Lib.hid L2
  go_wp2_with (((with_reducible refine wpList_load_want (op := ⟨some 8, .load 27 (.tmp 1), _, _, _, _⟩) ?wg2 27 (.tmp 1) ?wo2 ⟨V1.heap.size, 0, none⟩ ?wx2 (.agg kc) L2.out ?_); (case wg2 => rfl); (case wo2 => rfl); (case wx2 => rfl)))
  clear L2
  refine (CB.out V2).mono ?_
  rintro e V3 ⟨x0, rfl, r0, hy⟩
  replace K := Lib.hid (K.out.trans (hy.mono K.out.size))
  replace NK := Lib.hid (NK.out.below hy NK.out.lt)
  have R0 := Lib.hid (r0)
  clear r0
  obtain ⟨ab, cb, eb, hlc, hlm⟩ := rd_shape R0.out
  rw [LB.out] at eb hlc
  subst eb
  obtain ⟨bb, off, rfl, hc⟩ := R0.out.cells (by omega)
  have hc0 := hc 0 (by omega)
  have hc1 := hc 1 (by omega)
  rw [B0.out, Nat.add_zero] at hc0
  rw [B1.out] at hc1
  have RS := Lib.hid (R0.out.sub 1 13 (by omega))
  rw [show (BB.drop 1).take 13 = BB.drop 1 from List.take_of_length_le (by rw [List.length_drop, LB.out]; omega)] at RS
  have hcap : (cb = 1) = False := eq_false (by omega)
  have hcap2 : (1 : Int) ≤ (cb : Int) := by omega
  have HC0 := Lib.hid hc0
  have HC1 := Lib.hid hc1
  have hbl := rd_cell (n := 1) hc1
  clear hc hc0 hc1
  clear hy
  have KV := Lib.hid (Below.refl V3.heap.size V3)
  go_wp2_with fail
  refine (CF1.out V3 _ R0.out).mono ?_
  rintro e V4 ⟨rfl, hy⟩
  replace K := Lib.hid (K.out.trans (hy.mono K.out.size))
  replace NK := Lib.hid (NK.out.below hy NK.out.lt)
  replace R0 := Lib.hid (R0.out.below hy)
  replace RS := Lib.hid (RS.out.below hy)
  replace KV := Lib.hid (KV.out.trans (hy.mono KV.out.size))
  clear hy
  go_wp2_with (((with_reducible refine wpList_blk_store (op := ⟨none, .store 27 (.tmp 3) (.tmp 16), _, _, _, _⟩) ?sg3 27 (.tmp 3) (.tmp 16) ?so3 (V4.heap.size) kc ?sx3 ?sy3 (Blk.new V4 27 ZcK) YK.out QK.out AK.out ?_); (case sg3 => rfl); (case so3 => rfl); (case sx3 => rfl); (case sy3 => rfl)))
  have qNKNX : V1.heap.size < V4.heap.size := NK.out.lt
  intro V5 hA hF hB
  have hy := ((Below.refl V4.heap.size V4).alloc (Nat.le_refl _) (.cells ZcK 27)).trans (hB _ (Nat.le_refl _))
  replace K := Lib.hid (K.out.trans (hy.mono K.out.size))
  replace NK := Lib.hid (NK.out.below hy NK.out.lt)
  replace R0 := Lib.hid (R0.out.below hy)
  replace RS := Lib.hid (RS.out.below hy)
  replace KV := Lib.hid (KV.out.trans (hy.mono KV.out.size))
  have NX := Lib.hid hA
  clear hA hF hB hy
  go_wp2_with fail
  refine (CF2.out V5 _ RS.out).mono ?_
  rintro e V6 ⟨rfl, hy⟩
  replace K := Lib.hid (K.out.trans (hy.mono K.out.size))
  replace NK := Lib.hid (NK.out.below hy NK.out.lt)
  replace R0 := Lib.hid (R0.out.below hy)
  replace RS := Lib.hid (RS.out.below hy)
  replace KV := Lib.hid (KV.out.trans (hy.mono KV.out.size))
  replace NX := Lib.hid (NX.out.below hy NX.out.lt)
  clear hy
  go_wp2_with (((with_reducible refine wpList_blk_store (op := ⟨none, .store 27 (.tmp 5) (.tmp 22), _, _, _, _⟩) ?sg4 27 (.tmp 5) (.tmp 22) ?so4 (V6.heap.size) kz ?sx4 ?sy4 (Blk.new V6 27 ZcK) Y0.out Q0.out A0.out ?_); (case sg4 => rfl); (case so4 => rfl); (case sx4 => rfl); (case sy4 => rfl)))
  have qNKNZ : V1.heap.size < V6.heap.size := NK.out.lt
  have qNXNZ : V4.heap.size < V6.heap.size := NX.out.lt
  intro V7 hA hF hB
  have hy := ((Below.refl V6.heap.size V6).alloc (Nat.le_refl _) (.cells ZcK 27)).trans (hB _ (Nat.le_refl _))
  replace K := Lib.hid (K.out.trans (hy.mono K.out.size))
  replace NK := Lib.hid (NK.out.below hy NK.out.lt)
  replace R0 := Lib.hid (R0.out.below hy)
  replace RS := Lib.hid (RS.out.below hy)
  replace KV := Lib.hid (KV.out.trans (hy.mono KV.out.size))
  replace NX := Lib.hid (NX.out.below hy NX.out.lt)
  have NZ := Lib.hid hA
  clear hA hF hB hy
  go_wp2_with fail
  refine wp_region_held (S := (fun w' : World => Below (V7.heap.size) V7 w')) (by kernel_rfl) ?_
  change wpAnyH _ _ _ _ _ _ _ _ V7.drew
  have hy : Below V7.heap.size V7 V7.drew := (Below.refl _ _).drew
  have hE0 : Below (V7.heap.size) V7 V7.drew := (Below.refl _ _).drew
  clear hy
  generalize V7.drew = Y7x0 at hE0  ⊢
  have E0 := Lib.hid hE0
  clear hE0
  refine tkA 0 (?_) ?_ E0.out ?_
  rotate_left
  · (intro w1 hS; go_simp; try with_reducible rfl)
  simp only [Act.put, tS1, tS2, tS3]
  refine tkA 1 (?_) ?_ E0.out ?_
  rotate_left
  · (intro w1 hS; go_simp; try with_reducible rfl)
  simp only [Act.put, tS1, tS2, tS3]
  refine tkA 2 (?_) ?_ E0.out ?_
  rotate_left
  · (intro w1 hS; go_simp; try with_reducible rfl)
  simp only [Act.put, tS1, tS2, tS3]
  refine tkA 3 (?_) ?_ E0.out ?_
  rotate_left
  · (intro w1 hS; go_simp; try with_reducible rfl)
  simp only [Act.put, tS1, tS2, tS3]
  refine tkA 4 (?_) ?_ E0.out ?_
  rotate_left
  · (intro w1 hS; go_simp; try with_reducible rfl)
  simp only [Act.put, tS1, tS2, tS3]
  refine tkA 5 (?_) ?_ E0.out ?_
  rotate_left
  · (intro w1 hS; go_simp; try with_reducible rfl)
  simp only [Act.put, tS1, tS2, tS3]
  refine tkA 6 (?_) ?_ E0.out ?_
  rotate_left
  · (intro w1 hS; have hW := hS; have q := ((KV.out.trans (hW.mono KV.out.size)).cell (p := ⟨bb, off, none⟩) hbl).trans HC0.out; clear hW hS; go_simp; try with_reducible rfl)
  simp only [Act.put, tS1, tS2, tS3]
  refine tkA 7 (?_) ?_ E0.out ?_
  rotate_left
  · (intro w1 hS; go_simp; try with_reducible rfl)
  simp only [Act.put, tS1, tS2, tS3]
  refine tkA 8 (?_) ?_ E0.out ?_
  rotate_left
  · (intro w1 hS; go_simp; try with_reducible rfl)
  simp only [Act.put, tS1, tS2, tS3]
  refine tkA 9 (?_) ?_ E0.out ?_
  rotate_left
  · (intro w1 hS; go_simp; try with_reducible rfl)
  simp only [Act.put, tS1, tS2, tS3]
  refine tkA 10 (?_) ?_ E0.out ?_
  rotate_left
  · (intro w1 hS; go_simp; try with_reducible rfl)
  simp only [Act.put, tS1, tS2, tS3]
  refine tkA 11 (?_) ?_ E0.out ?_
  rotate_left
  · (intro w1 hS; go_simp; try with_reducible rfl)
  simp only [Act.put, tS1, tS2, tS3]
  refine tkA 12 (?_) ?_ E0.out ?_
  rotate_left
  · (intro w1 hS; have hW := hS; have q := ((KV.out.trans (hW.mono KV.out.size)).cell (p := ⟨bb, off + 1, none⟩) hbl).trans HC1.out; clear hW hS; go_simp; try with_reducible rfl)
  simp only [Act.put, tS1, tS2, tS3]
  refine tkA 13 (?_) ?_ E0.out ?_
  rotate_left
  · (intro w1 hS; go_simp; try with_reducible rfl)
  simp only [Act.put, tS1, tS2, tS3]
  refine tkA 14 (?_) ?_ E0.out ?_
  rotate_left
  · (intro w1 hS; go_simp; try with_reducible rfl)
  simp only [Act.put, tS1, tS2, tS3]
  refine tkA 15 (?_) ?_ E0.out ?_
  rotate_left
  · (intro w1 hS; go_simp; try with_reducible rfl)
  simp only [Act.put, tS1, tS2, tS3]
  refine tkA 16 (?_) ?_ E0.out ?_
  rotate_left
  · (intro w1 hS; go_simp; try with_reducible rfl)
  simp only [Act.put, tS1, tS2, tS3]
  refine tkA 17 (?_) ?_ E0.out ?_
  rotate_left
  · (intro w1 hS; go_simp; try with_reducible rfl)
  simp only [Act.put, tS1, tS2, tS3]
  refine tkA 18 (?_) ?_ E0.out ?_
  rotate_left
  · (intro w1 hS; go_simp; try with_reducible rfl)
  simp only [Act.put, tS1, tS2, tS3]
  refine tkA 19 (?_) ?_ E0.out ?_
  rotate_left
  · (intro w1 hS; go_simp; try with_reducible rfl)
  simp only [Act.put, tS1, tS2, tS3]
  refine tkA 20 (.agg kc) ?_ E0.out ?_
  · (intro w1 hS; have hW := hS; exact exec_load 27 (.tmp 3) rfl _ rfl _ (run_blk_load (P := Tryd.prog) 27 (V4.heap.size) _ (NX.out.below hW NX.out.lt) Tryd.underlying27 rfl QK.out))
  simp only [Act.put, tS1, tS2, tS3]
  refine tkA 21 (.agg kc) ?_ E0.out ?_
  · (intro w1 hS; have hW := hS; exact exec_load 27 (.tmp 1) rfl _ rfl _ (run_blk_load (P := Tryd.prog) 27 (V1.heap.size) _ (NK.out.below hW NK.out.lt) Tryd.underlying27 rfl QK.out))
  simp only [Act.put, tS1, tS2, tS3]
  refine tkA 22 (?_) ?_ E0.out ?_
  rotate_left
  · (intro w1 hS; have hW := hS; have q := EQ.out; clear hW hS; go_simp; try with_reducible rfl)
  simp only [Act.put, tS1, tS2, tS3]
  refine tkA 23 (?_) ?_ E0.out ?_
  rotate_left
  · (intro w1 hS; go_simp; try with_reducible rfl)
  simp only [Act.put, tS1, tS2, tS3]
  refine tkA 24 (?_) ?_ E0.out ?_
  rotate_left
  · (intro w1 hS; go_simp; try with_reducible rfl)
  simp only [Act.put, tS1, tS2, tS3]
  refine tkA 25 (?_) ?_ E0.out ?_
  rotate_left
  · (intro w1 hS; go_simp; try with_reducible rfl)
  simp only [Act.put, tS1, tS2, tS3]
  refine tkA 26 (?_) ?_ E0.out ?_
  rotate_left
  · (intro w1 hS; go_simp; try with_reducible rfl)
  simp only [Act.put, tS1, tS2, tS3]
  refine tkA 27 (?_) ?_ E0.out ?_
  rotate_left
  · (intro w1 hS; go_simp; try with_reducible rfl)
  simp only [Act.put, tS1, tS2, tS3]
  refine tkA 28 (?_) ?_ E0.out ?_
  rotate_left
  · (intro w1 hS; go_simp; try with_reducible rfl)
  simp only [Act.put, tS1, tS2, tS3]
  refine tkA 29 (.agg kc) ?_ E0.out ?_
  · (intro w1 hS; have hW := hS; exact exec_load 27 (.tmp 1) rfl _ rfl _ (run_blk_load (P := Tryd.prog) 27 (V1.heap.size) _ (NK.out.below hW NK.out.lt) Tryd.underlying27 rfl QK.out))
  simp only [Act.put, tS1, tS2, tS3]
  refine tkO 30 (fun KK hK => ?_)
  go_simp
  refine (CT.out Y7x0 ((HE.out.below K.out).below E0.out)).mono ?_
  rintro e Y7x1 ⟨rfl, hy⟩
  have E1 := Lib.hid (E0.out.trans (hy.mono E0.out.size))
  have C1 := Lib.hid E1.out
  clear hy E0
  refine hK.out _ _ C1.out (fun _ => ?_)
  clear hK KK
  refine wpAnyH_mono (S' := (fun w' : World => Below Y7x1.heap.size Y7x1 w')) (fun w1 h => C1.out.trans (h.mono C1.out.size)) _ _ _ _ ?_
  clear C1
  try simp only [Act.put, tS1, tS2, tS3]
  refine tkA 31 (?_) ?_ (Below.refl _ _) ?_
  rotate_left
  · (intro w1 hS; go_simp; try with_reducible rfl)
  simp only [Act.put, tS1, tS2, tS3]
  refine tkA 32 (?_) ?_ (Below.refl _ _) ?_
  rotate_left
  · (intro w1 hS; go_simp; try with_reducible rfl)
  simp only [Act.put, tS1, tS2, tS3]
  refine tkA 33 (?_) ?_ (Below.refl _ _) ?_
  rotate_left
  · (intro w1 hS; go_simp; try with_reducible rfl)
  simp only [Act.put, tS1, tS2, tS3]
  refine tkA 34 (.agg kc) ?_ (Below.refl _ _) ?_
  · (intro w1 hS; have hW := E1.out.trans (hS.mono E1.out.size); exact exec_load 27 (.tmp 1) rfl _ rfl _ (run_blk_load (P := Tryd.prog) 27 (V1.heap.size) _ (NK.out.below hW NK.out.lt) Tryd.underlying27 rfl QK.out))
  simp only [Act.put, tS1, tS2, tS3]
  refine tkA 36 (?_) ?_ (Below.refl _ _) ?_
  rotate_left
  · (intro w1 hS; go_simp; try with_reducible rfl)
  simp only [Act.put, tS1, tS2, tS3]
  refine tkA 37 (.agg D) ?_ (Below.refl _ _) ?_
  · (intro w1 hS; have hW := E1.out.trans (hS.mono E1.out.size); exact exec_load 24 (.tmp 60) rfl _ rfl _ (by have h := run_part_load (P := Tryd.prog) 24 18 D.toList _ (NK.out.below hW NK.out.lt) KP2.out Tryd.underlying24 rfl ID.out; rwa [Array.toArray_toList] at h))
  simp only [Act.put, tS1, tS2, tS3]
  refine tkA 38 (.agg vc) ?_ (Below.refl _ _) ?_
  · (intro w1 hS; exact exec_build 39 _ rfl #[(0, .int .u8 6), (1, .agg D), (2, .int .u16 80)] (by kernel_rfl) vc BV.out)
  simp only [Act.put, tS1, tS2, tS3]
  refine tkO 35 (fun KK hK => ?_)
  go_simp
  refine (CP.out Y7x1).mono ?_
  rintro e Y7x2 ⟨rfl, hy⟩
  have E2 := Lib.hid (E1.out.trans (hy.mono E1.out.size))
  have C2 := Lib.hid hy
  clear hy E1
  refine hK.out _ _ C2.out (fun _ => ?_)
  clear hK KK
  refine wpAnyH_mono (S' := (fun w' : World => Below Y7x2.heap.size Y7x2 w')) (fun w1 h => C2.out.trans (h.mono C2.out.size)) _ _ _ _ ?_
  clear C2
  try simp only [Act.put, tS1, tS2, tS3]
  refine tkA 39 (?_) ?_ (Below.refl _ _) ?_
  rotate_left
  · (intro w1 hS; have hW := E2.out.trans (hS.mono E2.out.size); have q := EV.out; clear hW hS; go_simp; try with_reducible rfl)
  simp only [Act.put, tS1, tS2, tS3]
  refine tkA 40 (?_) ?_ (Below.refl _ _) ?_
  rotate_left
  · (intro w1 hS; go_simp; try with_reducible rfl)
  simp only [Act.put, tS1, tS2, tS3]
  refine tkA 41 (?_) ?_ (Below.refl _ _) ?_
  rotate_left
  · (intro w1 hS; go_simp; try with_reducible rfl)
  simp only [Act.put, tS1, tS2, tS3]
  refine tkA 42 (.agg kc) ?_ (Below.refl _ _) ?_
  · (intro w1 hS; have hW := E2.out.trans (hS.mono E2.out.size); exact exec_load 27 (.tmp 1) rfl _ rfl _ (run_blk_load (P := Tryd.prog) 27 (V1.heap.size) _ (NK.out.below hW NK.out.lt) Tryd.underlying27 rfl QK.out))
  simp only [Act.put, tS1, tS2, tS3]
  refine tkO 43 (fun KK hK => ?_)
  go_simp
  refine (CV1.out Y7x2).mono ?_
  rintro e Y7x3 ⟨rfl, hy⟩
  have E3 := Lib.hid (E2.out.trans (hy.mono E2.out.size))
  have C3 := Lib.hid hy
  clear hy E2
  refine hK.out _ _ C3.out (fun _ => ?_)
  clear hK KK
  refine wpAnyH_mono (S' := (fun w' : World => Below Y7x3.heap.size Y7x3 w')) (fun w1 h => C3.out.trans (h.mono C3.out.size)) _ _ _ _ ?_
  clear C3
  try simp only [Act.put, tS1, tS2, tS3]
  refine tkA 44 (?_) ?_ (Below.refl _ _) ?_
  rotate_left
  · (intro w1 hS; go_simp; try with_reducible rfl)
  simp only [Act.put, tS1, tS2, tS3]
  refine tkA 45 (?_) ?_ (Below.refl _ _) ?_
  rotate_left
  · (intro w1 hS; go_simp; try with_reducible rfl)
  simp only [Act.put, tS1, tS2, tS3]
  refine tkA 46 (?_) ?_ (Below.refl _ _) ?_
  rotate_left
  · (intro w1 hS; go_simp; try with_reducible rfl)
  simp only [Act.put, tS1, tS2, tS3]
  refine tkO 47 (fun KK hK => ?_)
  go_simp
  refine (CV0.out Y7x3).mono ?_
  rintro e Y7x4 ⟨rfl, hy⟩
  have E4 := Lib.hid (E3.out.trans (hy.mono E3.out.size))
  have C4 := Lib.hid hy
  clear hy E3
  refine hK.out _ _ C4.out (fun _ => ?_)
  clear hK KK
  refine wpAnyH_mono (S' := (fun w' : World => Below Y7x4.heap.size Y7x4 w')) (fun w1 h => C4.out.trans (h.mono C4.out.size)) _ _ _ _ ?_
  clear C4
  try simp only [Act.put, tS1, tS2, tS3]
  refine tkA 48 (?_) ?_ (Below.refl _ _) ?_
  rotate_left
  · (intro w1 hS; go_simp; try with_reducible rfl)
  simp only [Act.put, tS1, tS2, tS3]
  refine tkA 49 (?_) ?_ (Below.refl _ _) ?_
  rotate_left
  · (intro w1 hS; go_simp; try with_reducible rfl)
  simp only [Act.put, tS1, tS2, tS3]
  refine tkA 50 (?_) ?_ (Below.refl _ _) ?_
  rotate_left
  · (intro w1 hS; go_simp; try with_reducible rfl)
  simp only [Act.put, tS1, tS2, tS3]
  refine tkA 51 (.agg kc) ?_ (Below.refl _ _) ?_
  · (intro w1 hS; have hW := E4.out.trans (hS.mono E4.out.size); exact exec_load 27 (.tmp 1) rfl _ rfl _ (run_blk_load (P := Tryd.prog) 27 (V1.heap.size) _ (NK.out.below hW NK.out.lt) Tryd.underlying27 rfl QK.out))
  simp only [Act.put, tS1, tS2, tS3]
  refine tkA 52 (.agg kc) ?_ (Below.refl _ _) ?_
  · (intro w1 hS; have hW := E4.out.trans (hS.mono E4.out.size); exact exec_load 27 (.tmp 1) rfl _ rfl _ (run_blk_load (P := Tryd.prog) 27 (V1.heap.size) _ (NK.out.below hW NK.out.lt) Tryd.underlying27 rfl QK.out))
  simp only [Act.put, tS1, tS2, tS3]
  refine tkO 53 (fun KK hK => ?_)
  go_simp
  refine (CC.out Y7x4).mono ?_
  rintro e Y7x5 ⟨rfl, hy⟩
  have E5 := Lib.hid (E4.out.trans (hy.mono E4.out.size))
  have C5 := Lib.hid hy
  clear hy E4
  refine hK.out _ _ C5.out (fun _ => ?_)
  clear hK KK
  refine wpAnyH_mono (S' := (fun w' : World => Below Y7x5.heap.size Y7x5 w')) (fun w1 h => C5.out.trans (h.mono C5.out.size)) _ _ _ _ ?_
  clear C5
  try simp only [Act.put, tS1, tS2, tS3]
  refine tkA 54 (?_) ?_ (Below.refl _ _) ?_
  rotate_left
  · (intro w1 hS; go_simp; try with_reducible rfl)
  simp only [Act.put, tS1, tS2, tS3]
  refine tkA 55 (?_) ?_ (Below.refl _ _) ?_
  rotate_left
  · (intro w1 hS; go_simp; try with_reducible rfl)
  simp only [Act.put, tS1, tS2, tS3]
  refine tkA 56 (?_) ?_ (Below.refl _ _) ?_
  rotate_left
  · (intro w1 hS; go_simp; try with_reducible rfl)
  simp only [Act.put, tS1, tS2]
  refine wpAnyH_done (by kernel_rfl) ?_ _
  have hy := E5.out
  replace K := Lib.hid (K.out.trans (hy.mono K.out.size))
  replace NK := Lib.hid (NK.out.below hy NK.out.lt)
  replace R0 := Lib.hid (R0.out.below hy)
  replace RS := Lib.hid (RS.out.below hy)
  replace KV := Lib.hid (KV.out.trans (hy.mono KV.out.size))
  replace NX := Lib.hid (NX.out.below hy NX.out.lt)
  replace NZ := Lib.hid (NZ.out.below hy NZ.out.lt)
  clear hy E5
  go_wp2
  go_ret
  exact ⟨rfl, K.out⟩
end Go.Proofs.YthkaadcgiplolaaDoor
