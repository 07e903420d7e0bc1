/- The walk of AddrTexts. -/
import Derived.Test.YtjcmidgeddhfoaaDoorTh
import Derived.Deep.CutBlock
import Derived.Deep.DeepCutAuto
import Derived.Deep.RegionHeld
import Derived.Test.YtjcmidgeddhfoaaDoorRnd
namespace Go.Proofs.YtjcmidgeddhfoaaDoor
open Go.RowKit Go.Lib

set_option maxRecDepth 100000 in
set_option maxHeartbeats 4000000 in
theorem at_long (S : ByteArray) (c : Array Value) (at0 : Int) (cc : Nat) (w : World) (hE : Env w) (h : 60 < S.size) :
    Calls Tryd.prog 4 #[.string S, .agg c, .int .i64 at0, .int .u8 (cc : Int)] w fun e w' => e = .returned (.bool true) ∧ Below w.heap.size w w' := by
  have Lw := Lib.hid ((Below.refl w.heap.size w).alloc (Nat.le_refl _) (.cells c 24))
  have HE := Lib.hid (hE.below Lw.out)
  clear hE
  go_enter Tryd.func4, Tryd.ntmps4
  go_wp2_with fail
  refine (awake_any _ HE.out).mono ?_
  rintro e w2 ⟨rfl, hb⟩
  have L2 := Lib.hid (Lw.out.trans (hb.mono Lw.out.size))
  clear hb
  go_wp2
  go_ret
  exact ⟨rfl, L2.out⟩

set_option maxRecDepth 100000 in
set_option maxHeartbeats 4000000 in
theorem at_walk (S : ByteArray) (v : Bool) (bs : List Nat) (hl : bs.length = 16) (hb : ∀ n ∈ bs, n < 256) (at0 : Int) (cc : Nat) (w : World) (hE : Env w) :
    Calls Tryd.prog 4 #[.string S, adr v bs, .int .i64 at0, .int .u8 (cc : Int)] w fun e w' => e = .returned (.bool true) ∧ Below w.heap.size w w' := by
  obtain ⟨c, hc⟩ : ∃ c, c = cellsA v bs := ⟨_, rfl⟩
  have hadr : adr v bs = .agg c := by rw [hc]; rfl
  rw [hadr]
  by_cases h60 : 60 < S.size
  · exact at_long S c at0 cc w hE h60
  have HE := Lib.hid hE
  have Z := Lib.hid (show c.size = 17 by rw [hc, cellsA_size, hl])
  have I := Lib.hid (i24.trans (congrArg some Z.out.symm))
  have C6 := Lib.hid (show ∀ W, Calls Tryd.prog 6 #[.agg c] W fun e w' => e = .returned (.bool (vldA v bs)) ∧ Below W.heap.size W w' from fun W => by rw [hc]; exact ref_adr v bs hl W)
  have K0w := Lib.hid (Blk.new w 24 c)
  have Lw := Lib.hid ((Below.refl w.heap.size w).alloc (Nat.le_refl _) (.cells c 24))
  have h60' : ¬ (60 : Int) < (S.size : Int) := by omega
  have hsz : S.size ≤ 60 := by omega
  by_cases hv : vldA v bs = true
  · obtain ⟨T, hT⟩ : ∃ T : ByteArray, T = ⟨(textA v bs).toArray⟩ := ⟨_, rfl⟩
    have hTs : T.size = (textA v bs).length := by rw [hT]; simp [ByteArray.size]
    have hT1 : 0 < T.size ∧ T.size ≤ 39 := by
      have h1 := text_pos v bs hl hb
      have h2 := textA_len v bs hl hb
      omega
    have C9 := Lib.hid (show ∀ W, Env W → Calls Tryd.prog 9 #[.agg c] W fun e w' => e = .returned (.string T) ∧ Below W.heap.size W w' from fun W hW => by rw [hc, hT]; exact text_adr v bs hl hb W hW)
    obtain ⟨c1, n1, P1, Z1, A1, E1⟩ := parse_told S (by omega)
    have HP1 := Lib.hid P1
    have HZ1 := Lib.hid Z1
    have HA1 := Lib.hid A1
    have HE1 := Lib.hid E1
    have I1 := Lib.hid (i24.trans (congrArg some Z1.symm))
    have S1 := Lib.hid (Z1.trans (cellsA_size false (List.replicate 16 0)).symm)
    rw [hv] at C6
    clear hc hadr hE hl hb hv hT hTs P1 Z1 A1 E1
    go_enter Tryd.func4, Tryd.ntmps4
    go_wp2_with (((with_reducible refine wpList_blk_load_want (op := ⟨some 20, .load 24 (.tmp 5), _, _, _, _⟩) ?w20 24 (.tmp 5) ?o20 w.heap.size ?x20 _ K0w.out Tryd.underlying24 ?d20 I.out ?_); (case w20 => rfl); (case o20 => rfl); (case x20 => rfl); (case d20 => rfl)))
    refine (C6.out _).mono ?_
    rintro e X1 ⟨rfl, hb⟩
    have LX1 := Lib.hid (Lw.out.trans (hb.mono Lw.out.size))
    have K0X1 := Lib.hid (K0w.out.below hb K0w.out.lt)
    clear hb K0w Lw
    go_wp2_with fail
    refine (HP1.out _ (HE.out.below LX1.out)).mono ?_
    rintro e X2 ⟨rfl, hb⟩
    have LX2 := Lib.hid (LX1.out.trans (hb.mono LX1.out.size))
    have K0X2 := Lib.hid (K0X1.out.below hb K0X1.out.lt)
    clear hb LX1 K0X1
    go_wp2_with ((refine wpList_blk_store (op := ⟨none, .store 24 (.tmp 9) (.tmp 28), _, _, _, _⟩) rfl 24 (.tmp 9) (.tmp 28) rfl X2.heap.size c1 (by rfl) (by rfl) (Blk.new X2 24 (cellsA false (List.replicate 16 0))) S1.out I1.out HA1.out ?_))
    intro W1 hA hF hB
    have LW1 := Lib.hid ((LX2.out.alloc LX2.out.size (.cells (cellsA false (List.replicate 16 0)) 24)).trans (hB _ LX2.out.size))
    have K0W1 := Lib.hid (show Blk W1 w.heap.size 24 c from (hF _ (Nat.ne_of_lt K0X2.out.lt)).trans (K0X2.out.alloc _))
    have KaW1 := Lib.hid hA
    clear hA hF hB K0X2 LX2
    go_upto_region 4 with fail
    go_cut [50] (fun q wx => q = .bool false ∧ Blk wx w.heap.size 24 c ∧ Below w.heap.size w wx)
    case first =>
      rcases HE1.out with ⟨rfl, ht⟩ | ⟨rfl, hz1⟩
      · have HT := Lib.hid ht
        clear ht
        go_wp2_with ((with_reducible refine wpList_blk_load_want (op := ⟨some 33, .load 24 (.tmp 9), _, _, _, _⟩) ?w33a 24 (.tmp 9) ?o33a X2.heap.size ?x33a _ KaW1.out Tryd.underlying24 ?d33a I1.out ?_); (case w33a => rfl); (case o33a => rfl); (case x33a => rfl); (case d33a => rfl))
        refine (HT.out _ (HE.out.below LW1.out)).mono ?_
        rintro e X3 ⟨rfl, hb⟩
        have LX3 := Lib.hid (LW1.out.trans (hb.mono LW1.out.size))
        have K0X3 := Lib.hid (K0W1.out.below hb K0W1.out.lt)
        clear hb
        go_wp2
        go_meet
        exact ⟨rfl, K0X3.out, LX3.out⟩
      · have heq : ∀ W, (Op.equalIn 10000 24 (.agg c1) (.agg #[.bool false, .int .u8 0, .int .u8 0, .int .u8 0, .int .u8 0, .int .u8 0, .int .u8 0, .int .u8 0, .int .u8 0, .int .u8 0, .int .u8 0, .int .u8 0, .int .u8 0, .int .u8 0, .int .u8 0, .int .u8 0, .int .u8 0])).run Tryd.prog W = .ok true W := fun W => by rw [hz1]; exact eq_zero W
        clear hz1
        go_wp2_with ((with_reducible refine wpList_blk_load_want (op := ⟨some 45, .load 24 (.tmp 9), _, _, _, _⟩) ?w45b 24 (.tmp 9) ?o45b X2.heap.size ?x45b _ KaW1.out Tryd.underlying24 ?d45b I1.out ?_); (case w45b => rfl); (case o45b => rfl); (case x45b => rfl); (case d45b => rfl))
        go_meet
        exact ⟨rfl, K0W1.out, LW1.out⟩
    case rest =>
      obtain ⟨rfl, K0c, Lc⟩ := hcut
      have LC := Lib.hid Lc
      have K0C := Lib.hid K0c
      clear K0c Lc LW1 K0W1 KaW1
      clear HP1 HZ1 HA1 HE1 I1 S1
      go_wp2_with ((with_reducible refine wpList_blk_load_want (op := ⟨some 51, .load 24 (.tmp 5), _, _, _, _⟩) ?w51e 24 (.tmp 5) ?o51e w.heap.size ?x51e _ K0C.out Tryd.underlying24 ?d51e I.out ?_); (case w51e => rfl); (case o51e => rfl); (case x51e => rfl); (case d51e => rfl))
      refine (C9.out _ (HE.out.below LC.out)).mono ?_
      rintro e X3 ⟨rfl, hb⟩
      have LX3 := Lib.hid (LC.out.trans (hb.mono LC.out.size))
      clear hb K0C LC
      obtain ⟨cap, W4, hcv, hbl, hcap, hmx, hfz, hsw, hcell⟩ := conv_mk X3 T (by omega)
      have hlen := nums_length T
      have hzs := nums_lt T
      obtain ⟨zs, hz⟩ : ∃ zs, zs = nums T := ⟨_, rfl⟩
      rw [← hz] at hcell hlen hzs
      have LX4 := Lib.hid (LX3.out.trans (hbl.mono LX3.out.size))
      obtain ⟨g, hg⟩ : ∃ g, g = X3.heap.size := ⟨_, rfl⟩
      have hgw : w.heap.size ≤ g := by rw [hg]; exact LX3.out.size
      rw [← hg] at hcv hfz hsw hcell
      obtain ⟨m, hm⟩ : ∃ m, m = T.size := ⟨_, rfl⟩
      rw [← hm] at hT1 hcv hcap hfz hcell hlen
      have R4 := Lib.hid (show Rd W4 (.slice (some ⟨g, 0, none⟩) m cap) (nus .u8 zs) from ⟨some ⟨g, 0, none⟩, cap, by rw [nus_length, hlen], by rw [nus_length, hlen]; exact hcap, hmx, .inr ⟨g, 0, rfl, hsw, fun q hq => by
        rw [nus_length, hlen] at hq
        rw [Nat.zero_add, hcell q hq, nus_get _ _ _ (by omega)]⟩⟩)
      obtain ⟨i, hi, hil⟩ : ∃ i : Nat, at0 % (m : Int) = i ∧ i < m := ⟨(at0 % (m : Int)).toNat, by have := Int.emod_nonneg at0 (show (m : Int) ≠ 0 by omega); omega, by have := Int.emod_lt_of_pos at0 (show (0 : Int) < (m : Int) by omega); have := Int.emod_nonneg at0 (show (m : Int) ≠ 0 by omega); omega⟩
      have hci := hcell i hil
      have hfi := hfz i hil
      have HI := Lib.hid hi
      have HL := Lib.hid hlen
      have HZS := Lib.hid hzs
      have hm0 : ((m : Int) == 0) = false := by rw [beq_eq_false_iff_ne]; omega
      obtain ⟨x0, hx0⟩ : ∃ x, x = zs.getD i 0 := ⟨_, rfl⟩
      rw [← hx0] at hci
      clear hcell hfz hbl hz hg hm hi hlen hzs hx0 hmx hcap
      go_wp2_with fail
      refine (round_any at0 m _ (by omega) (by omega)).mono ?_
      rintro e w' ⟨rfl, rfl⟩
      rw [HI.out]
      have hst := R4.out.setc i cc hil
      have LX5 := Lib.hid (LX4.out.setCell (p := ⟨g, i, none⟩) hgw (.int .u8 (cc : Int)))
      have hc5 := conv_rd _ 32 9 5 Tryd.underlying32 Tryd.underlying5 Tryd.underlying9 _ _ hst
      have R5 := Lib.hid hst
      obtain ⟨T2, hT2⟩ : ∃ T2, T2 = str (zs.set i cc) := ⟨_, rfl⟩
      rw [← hT2] at hc5
      have hts : T2.size = m := by rw [hT2, str_size, List.length_set]; exact HL.out
      have HT2 := Lib.hid hT2
      obtain ⟨c2, n2, P2, Z2, A2, E2⟩ := parse_told T2 (by omega)
      have HP2 := Lib.hid P2
      have HA2 := Lib.hid A2
      have HE2 := Lib.hid E2
      have I2 := Lib.hid (i24.trans (congrArg some Z2.symm))
      have S2 := Lib.hid (Z2.trans (cellsA_size false (List.replicate 16 0)).symm)
      have hD := parse_dot T2 (by omega)
      obtain ⟨c3, hc3⟩ : ∃ c3, c3 = cellsA false (List.replicate 16 0) := ⟨_, rfl⟩
      rw [← hc3] at hD
      have HD := Lib.hid hD
      have I3 := Lib.hid (i24.trans (congrArg some (show c3.size = 17 by rw [hc3]; rfl).symm))
      have S3 := Lib.hid (show c3.size = (cellsA false (List.replicate 16 0)).size by rw [hc3])
      have A3 := Lib.hid (show c3.all (·.oneCell') = true by rw [hc3]; exact cellsA_all _ _)
      have hadd : ¬ 9223372036854775807 < T2.size + 2 := by omega
      have HTS := Lib.hid hts
      clear hst hcv hT2 P2 Z2 A2 E2 hD hc3 hts
      go_wp2_with fail
      generalize W4.setCell ⟨g, i, none⟩ (.int .u8 (cc : Int)) = W5 at LX5 R5 hc5 ⊢
      clear hci hfi hc5 R4 LX4 hsw
      refine (HP2.out _ (HE.out.below LX5.out)).mono ?_
      rintro e X6 ⟨rfl, hb⟩
      have LX6 := Lib.hid (LX5.out.trans (hb.mono LX5.out.size))
      have R6 := Lib.hid (R5.out.below hb)
      clear hb R5 LX5
      go_wp2_with ((refine wpList_blk_store (op := ⟨none, .store 24 (.tmp 12) (.tmp 68), _, _, _, _⟩) rfl 24 (.tmp 12) (.tmp 68) rfl X6.heap.size c2 (by rfl) (by rfl) (Blk.new X6 24 (cellsA false (List.replicate 16 0))) S2.out I2.out HA2.out ?_))
      intro W7 hA hF hB
      have b67 := ((Below.refl X6.heap.size X6).alloc (Nat.le_refl _) (.cells (cellsA false (List.replicate 16 0)) 24)).trans (hB X6.heap.size (Nat.le_refl _))
      have LX7 := Lib.hid (LX6.out.trans (b67.mono LX6.out.size))
      have R7 := Lib.hid (R6.out.below b67)
      have KY7 := Lib.hid hA
      have hc7 := conv_rd _ 32 9 5 Tryd.underlying32 Tryd.underlying5 Tryd.underlying9 _ _ R7.out
      rw [← HT2.out] at hc7
      clear hA hF hB b67 R6 LX6
      go_wp2_with fail
      clear hc7
      refine (HD.out _ (HE.out.below LX7.out)).mono ?_
      rintro e X8 ⟨rfl, hb⟩
      have LX8 := Lib.hid (LX7.out.trans (hb.mono LX7.out.size))
      have R8 := Lib.hid (R7.out.below hb)
      have KY8 := Lib.hid (KY7.out.below hb KY7.out.lt)
      clear hb R7 LX7 KY7
      go_wp2_with ((refine wpList_blk_store (op := ⟨none, .store 24 (.tmp 14) (.tmp 75), _, _, _, _⟩) rfl 24 (.tmp 14) (.tmp 75) rfl X8.heap.size c3 (by rfl) (by rfl) (Blk.new X8 24 (cellsA false (List.replicate 16 0))) S3.out I3.out A3.out ?_))
      intro W9 hA hF hB
      have b89 := ((Below.refl X8.heap.size X8).alloc (Nat.le_refl _) (.cells (cellsA false (List.replicate 16 0)) 24)).trans (hB X8.heap.size (Nat.le_refl _))
      have LX9 := Lib.hid (LX8.out.trans (b89.mono LX8.out.size))
      have R9 := Lib.hid (R8.out.below b89)
      have KY9 := Lib.hid (KY8.out.below b89 KY8.out.lt)
      have hcv9 : ∀ W', Below W9.heap.size W9 W' → (convert 32 9 (.slice (some ⟨g, 0, none⟩) m cap)).run Tryd.prog W' = .ok (.string T2) W' := fun W' hW' => by
        have h := conv_rd W' 32 9 5 Tryd.underlying32 Tryd.underlying5 Tryd.underlying9 _ _ (R9.out.below hW')
        rw [← HT2.out] at h
        exact h
      have HCV := Lib.hid hcv9
      clear hA hF hB b89 hcv9 R8 LX8 KY8 HD HP2 HT2 I3 S3 A3
      rcases HE2.out with ⟨rfl, htx⟩ | ⟨rfl, -⟩
      · have HTX := Lib.hid htx
        clear htx HE2
        go_wp2_with fail
        have HLD := Lib.hid (fun W (h : Blk W X6.heap.size 24 c2) => run_blk_load (P := Tryd.prog) 24 X6.heap.size _ h Tryd.underlying24 rfl I2.out)
        have hS0 : (fun w' : World => Blk w' X6.heap.size 24 c2 ∧ (convert 32 9 (.slice (some ⟨g, 0, none⟩) m cap)).run Tryd.prog w' = .ok (.string T2) w') W9.drew := ⟨KY9.out.drew, HCV.out _ (Below.refl _ _).drew⟩
        have hE0 : Below W9.heap.size W9 W9.drew := (Below.refl _ _).drew
        refine wp_region_held (S := (fun w' : World => Blk w' X6.heap.size 24 c2 ∧ (convert 32 9 (.slice (some ⟨g, 0, none⟩) m cap)).run Tryd.prog w' = .ok (.string T2) w')) (by kernel_rfl) ?_
        change wpAnyH _ _ _ _ _ _ _ _ W9.drew
        generalize W9.drew = Y0 at hS0 hE0 ⊢
        have E0 := Lib.hid hE0
        clear hE0
        refine wpAnyH_take (i := 0) (oi := { dst := some 77, op := Op.move (Operand.tmp 13), type := 27, pos := "law.go:59", after := #[], guard := none }) (v := ?_) rfl (by kernel_rfl) (by kernel_rfl) (by kernel_rfl) (fun _ _ _ h => h) (Or.inl ⟨by rfl, ?_⟩) hS0 ?_
        rotate_left
        · (intro w1 hSw; obtain ⟨q1, q2⟩ := hSw; go_simp; try with_reducible rfl)
        simp only [Act.put, List.setIfInBounds_toArray, List.set_cons_zero, List.set_cons_succ]
        refine wpAnyH_take (i := 1) (oi := { dst := some 78, op := Op.binOp BinOp.neq 27 (Operand.tmp 77) (Operand.const (Value.int IntKind.i64 0)) 27, type := 4, pos := "law.go:59", after := #[{ on := 0, ground := Ground.data }], guard := none }) (v := ?_) rfl (by kernel_rfl) (by kernel_rfl) (by kernel_rfl) (fun _ _ _ h => h) (Or.inl ⟨by rfl, ?_⟩) hS0 ?_
        rotate_left
        · (intro w1 hSw; obtain ⟨q1, q2⟩ := hSw; go_simp; try with_reducible rfl)
        simp only [Act.put, List.setIfInBounds_toArray, List.set_cons_zero, List.set_cons_succ]
        refine wpAnyH_take (i := 2) (oi := { dst := some 79, op := Op.move (Operand.tmp 78), type := 4, pos := "law.go:59", after := #[{ on := 1, ground := Ground.data }], guard := none }) (v := ?_) rfl (by kernel_rfl) (by kernel_rfl) (by kernel_rfl) (fun _ _ _ h => h) (Or.inl ⟨by rfl, ?_⟩) hS0 ?_
        rotate_left
        · (intro w1 hSw; obtain ⟨q1, q2⟩ := hSw; go_simp; try with_reducible rfl)
        simp only [Act.put, List.setIfInBounds_toArray, List.set_cons_zero, List.set_cons_succ]
        refine wpAnyH_take (i := 3) (oi := { dst := some 80, op := Op.load 24 (Operand.tmp 12), type := 24, pos := "law.go:59", after := #[{ on := 2, ground := Ground.guard }], guard := some (2, false) }) (v := .agg c2) rfl (by kernel_rfl) (by kernel_rfl) (by kernel_rfl) (fun _ _ _ h => h) (Or.inl ⟨by rfl, ?_⟩) hS0 ?_
        · (intro w1 hSw; obtain ⟨q1, q2⟩ := hSw; have hl := HLD.out w1 q1; unfold execOp; simp only [Instr.loadAt, Instr.sureAddr, Sem.run_bind, Sem.run_pure, Act.eval]; simp [hl, Result.andThen])
        simp only [Act.put, List.setIfInBounds_toArray, List.set_cons_zero, List.set_cons_succ]
        refine wpAnyH_take (i := 5) (oi := { dst := some 82, op := Op.move (Operand.tmp 11), type := 32, pos := "law.go:59", after := #[{ on := 2, ground := Ground.guard }], guard := some (2, false) }) (v := ?_) rfl (by kernel_rfl) (by kernel_rfl) (by kernel_rfl) (fun _ _ _ h => h) (Or.inl ⟨by rfl, ?_⟩) hS0 ?_
        rotate_left
        · (intro w1 hSw; obtain ⟨q1, q2⟩ := hSw; go_simp; try with_reducible rfl)
        simp only [Act.put, List.setIfInBounds_toArray, List.set_cons_zero, List.set_cons_succ]
        refine wpAnyH_take (i := 6) (oi := { dst := some 83, op := Op.convert 32 9 (Operand.tmp 82), type := 9, pos := "law.go:59", after := #[{ on := 5, ground := Ground.data }, { on := 2, ground := Ground.guard }], guard := some (2, false) }) (v := ?_) rfl (by kernel_rfl) (by kernel_rfl) (by kernel_rfl) (fun _ _ _ h => h) (Or.inl ⟨by rfl, ?_⟩) hS0 ?_
        rotate_left
        · (intro w1 hSw; obtain ⟨q1, q2⟩ := hSw; go_simp; try with_reducible rfl)
        simp only [Act.put, List.setIfInBounds_toArray, List.set_cons_zero, List.set_cons_succ]
        refine wpAnyH_ready (rs := [4]) (by kernel_rfl) (by simp) ?_
        refine AllReadyH.cons (o := { dst := some 81, op := Op.call { callee := Callee.value (Operand.func 9), args := #[Operand.tmp 80], argTypes := #[24] }, type := 9, pos := "law.go:59", after := #[{ on := 3, ground := Ground.data }, { on := 2, ground := Ground.chain }, { on := 2, ground := Ground.guard }], guard := some (2, false) }) rfl (fun K hK => ?_) AllReadyH.nil
        go_simp
        refine (HTX.out _ (HE.out.below (LX9.out.trans (E0.out.mono LX9.out.size)))).mono ?_
        rintro e Y1 ⟨rfl, hy⟩
        have E1 := Lib.hid (E0.out.trans (hy.mono E0.out.size))
        have hS1 : (fun w' : World => Blk w' X6.heap.size 24 c2 ∧ (convert 32 9 (.slice (some ⟨g, 0, none⟩) m cap)).run Tryd.prog w' = .ok (.string T2) w') Y1 := ⟨hS0.1.below hy hS0.1.lt, HCV.out _ E1.out⟩
        clear hy hS0 E0
        refine hK.out _ _ hS1 (fun _ => ?_)
        clear hK K
        try simp only [Act.put, List.setIfInBounds_toArray, List.set_cons_zero, List.set_cons_succ]
        refine wpAnyH_take (i := 7) (oi := { dst := some 84, op := Op.binOp BinOp.eql 9 (Operand.tmp 81) (Operand.tmp 83) 9, type := 4, pos := "law.go:59", after := #[{ on := 4, ground := Ground.data }, { on := 6, ground := Ground.data }, { on := 2, ground := Ground.guard }], guard := some (2, false) }) (v := ?_) rfl (by kernel_rfl) (by kernel_rfl) (by kernel_rfl) (fun _ _ _ h => h) (Or.inl ⟨by rfl, ?_⟩) hS1 ?_
        rotate_left
        · (intro w1 hSw; obtain ⟨q1, q2⟩ := hSw; go_simp; try with_reducible rfl)
        simp only [Act.put, List.setIfInBounds_toArray, List.set_cons_zero, List.set_cons_succ]
        refine wpAnyH_take (i := 8) (oi := { dst := some 85, op := Op.pick (Operand.tmp 79) (Operand.const (Value.bool true)) (Operand.tmp 84), type := 4, pos := "law.go:59", after := #[{ on := 2, ground := Ground.data }, { on := 7, ground := Ground.data }], guard := none }) (v := ?_) rfl (by kernel_rfl) (by kernel_rfl) (by kernel_rfl) (fun _ _ _ h => h) (Or.inl ⟨by rfl, ?_⟩) hS1 ?_
        rotate_left
        · (intro w1 hSw; obtain ⟨q1, q2⟩ := hSw; go_simp; try with_reducible rfl)
        simp only [Act.put, List.setIfInBounds_toArray, List.set_cons_zero, List.set_cons_succ]
        refine wpAnyH_take (i := 9) (oi := { dst := some 86, op := Op.move (Operand.tmp 85), type := 4, pos := "law.go:59", after := #[{ on := 8, ground := Ground.data }, { on := 4, ground := Ground.chain }], guard := none }) (v := ?_) rfl (by kernel_rfl) (by kernel_rfl) (by kernel_rfl) (fun _ _ _ h => h) (Or.inl ⟨by rfl, ?_⟩) hS1 ?_
        rotate_left
        · (intro w1 hSw; obtain ⟨q1, q2⟩ := hSw; go_simp; try with_reducible rfl)
        simp only [Act.put, List.setIfInBounds_toArray, List.set_cons_zero, List.set_cons_succ]
        refine wpAnyH_take (i := 10) (oi := { dst := some 87, op := Op.move (Operand.tmp 15), type := 27, pos := "law.go:59", after := #[{ on := 9, ground := Ground.guard }], guard := some (9, true) }) (v := ?_) rfl (by kernel_rfl) (by kernel_rfl) (by kernel_rfl) (fun _ _ _ h => h) (Or.inl ⟨by rfl, ?_⟩) hS1 ?_
        rotate_left
        · (intro w1 hSw; obtain ⟨q1, q2⟩ := hSw; go_simp; try with_reducible rfl)
        simp only [Act.put, List.setIfInBounds_toArray, List.set_cons_zero, List.set_cons_succ]
        refine wpAnyH_take (i := 11) (oi := { dst := some 88, op := Op.binOp BinOp.eql 27 (Operand.tmp 87) (Operand.const (Value.int IntKind.i64 2)) 27, type := 4, pos := "law.go:59", after := #[{ on := 10, ground := Ground.data }, { on := 9, ground := Ground.guard }], guard := some (9, true) }) (v := ?_) rfl (by kernel_rfl) (by kernel_rfl) (by kernel_rfl) (fun _ _ _ h => h) (Or.inl ⟨by rfl, ?_⟩) hS1 ?_
        rotate_left
        · (intro w1 hSw; obtain ⟨q1, q2⟩ := hSw; go_simp; try with_reducible rfl)
        simp only [Act.put, List.setIfInBounds_toArray, List.set_cons_zero, List.set_cons_succ]
        refine wpAnyH_take (i := 12) (oi := { dst := some 89, op := Op.pick (Operand.tmp 86) (Operand.tmp 88) (Operand.const (Value.bool false)), type := 4, pos := "law.go:59", after := #[{ on := 9, ground := Ground.data }, { on := 11, ground := Ground.data }], guard := none }) (v := ?_) rfl (by kernel_rfl) (by kernel_rfl) (by kernel_rfl) (fun _ _ _ h => h) (Or.inl ⟨by rfl, ?_⟩) hS1 ?_
        rotate_left
        · (intro w1 hSw; obtain ⟨q1, q2⟩ := hSw; go_simp; try with_reducible rfl)
        simp only [Act.put, List.setIfInBounds_toArray, List.set_cons_zero, List.set_cons_succ]
        refine wpAnyH_take (i := 13) (oi := { dst := some 90, op := Op.move (Operand.tmp 89), type := 4, pos := "law.go:59", after := #[{ on := 12, ground := Ground.data }, { on := 9, ground := Ground.chain }], guard := none }) (v := ?_) rfl (by kernel_rfl) (by kernel_rfl) (by kernel_rfl) (fun _ _ _ h => h) (Or.inl ⟨by rfl, ?_⟩) hS1 ?_
        rotate_left
        · (intro w1 hSw; obtain ⟨q1, q2⟩ := hSw; go_simp; try with_reducible rfl)
        simp only [Act.put, List.setIfInBounds_toArray, List.set_cons_zero, List.set_cons_succ]
        refine wpAnyH_ready (rs := [14]) (by kernel_rfl) (by simp) ?_
        refine AllReadyH.cons (o := { dst := some 91, op := Op.call { callee := Callee.value (Operand.func 7), args := #[], argTypes := #[] }, type := 4, pos := "law.go:59", after := #[{ on := 13, ground := Ground.chain }, { on := 13, ground := Ground.guard }], guard := some (13, true) }) rfl (fun K hK => ?_) AllReadyH.nil
        go_simp
        refine (awake_any _ (HE.out.below (LX9.out.trans (E1.out.mono LX9.out.size)))).mono ?_
        rintro e Y3 ⟨rfl, hy⟩
        have E3 := Lib.hid (E1.out.trans (hy.mono E1.out.size))
        have hS3 : (fun w' : World => Blk w' X6.heap.size 24 c2 ∧ (convert 32 9 (.slice (some ⟨g, 0, none⟩) m cap)).run Tryd.prog w' = .ok (.string T2) w') Y3 := ⟨hS1.1.below hy hS1.1.lt, HCV.out _ E3.out⟩
        clear hy hS1 E1
        refine hK.out _ _ hS3 (fun _ => ?_)
        clear hK K
        try simp only [Act.put, List.setIfInBounds_toArray, List.set_cons_zero, List.set_cons_succ]
        refine wpAnyH_take (i := 15) (oi := { dst := some 92, op := Op.pick (Operand.tmp 90) (Operand.tmp 91) (Operand.const (Value.bool false)), type := 4, pos := "law.go:59", after := #[{ on := 13, ground := Ground.data }, { on := 14, ground := Ground.data }], guard := none }) (v := ?_) rfl (by kernel_rfl) (by kernel_rfl) (by kernel_rfl) (fun _ _ _ h => h) (Or.inl ⟨by rfl, ?_⟩) hS3 ?_
        rotate_left
        · (intro w1 hSw; obtain ⟨q1, q2⟩ := hSw; go_simp; try with_reducible rfl)
        simp only [Act.put, List.setIfInBounds_toArray, List.set_cons_zero, List.set_cons_succ]
        refine wpAnyH_take (i := 16) (oi := { dst := some 8, op := Op.assign (Operand.tmp 92), type := 4, pos := "law.go:59", after := #[{ on := 15, ground := Ground.data }, { on := 14, ground := Ground.chain }, { on := 0, ground := Ground.phase }, { on := 1, ground := Ground.phase }, { on := 2, ground := Ground.phase }, { on := 3, ground := Ground.phase }, { on := 4, ground := Ground.phase }, { on := 5, ground := Ground.phase }, { on := 6, ground := Ground.phase }, { on := 7, ground := Ground.phase }, { on := 8, ground := Ground.phase }, { on := 9, ground := Ground.phase }, { on := 10, ground := Ground.phase }, { on := 11, ground := Ground.phase }, { on := 12, ground := Ground.phase }, { on := 13, ground := Ground.phase }, { on := 14, ground := Ground.phase }, { on := 15, ground := Ground.phase }], guard := none }) (v := ?_) rfl (by kernel_rfl) (by kernel_rfl) (by kernel_rfl) (fun _ _ _ h => h) (Or.inl ⟨by rfl, ?_⟩) hS3 ?_
        rotate_left
        · (intro w1 hSw; obtain ⟨q1, q2⟩ := hSw; go_simp; try with_reducible rfl)
        simp only [Act.put, List.setIfInBounds_toArray, List.set_cons_zero, List.set_cons_succ]
        refine wpAnyH_done (by kernel_rfl) ?_ _
        go_wp2
        go_ret
        exact ⟨rfl, LX9.out.trans (E3.out.mono LX9.out.size)⟩
      · clear HE2
        go_wp2_with fail
        have hE0 : Below W9.heap.size W9 W9.drew := (Below.refl _ _).drew
        refine wp_region_held (S := fun _ => True) (by kernel_rfl) ?_
        change wpAnyH _ _ _ _ _ _ _ _ W9.drew
        generalize W9.drew = Y0 at hE0 ⊢
        have E0 := Lib.hid hE0
        clear hE0
        refine wpAnyH_take (i := 0) (oi := { dst := some 77, op := Op.move (Operand.tmp 13), type := 27, pos := "law.go:59", after := #[], guard := none }) (v := ?_) rfl (by kernel_rfl) (by kernel_rfl) (by kernel_rfl) (fun _ _ _ h => h) (Or.inl ⟨by rfl, ?_⟩) trivial ?_
        rotate_left
        · (intro w1 _; go_simp; try with_reducible rfl)
        simp only [Act.put, List.setIfInBounds_toArray, List.set_cons_zero, List.set_cons_succ]
        refine wpAnyH_take (i := 1) (oi := { dst := some 78, op := Op.binOp BinOp.neq 27 (Operand.tmp 77) (Operand.const (Value.int IntKind.i64 0)) 27, type := 4, pos := "law.go:59", after := #[{ on := 0, ground := Ground.data }], guard := none }) (v := ?_) rfl (by kernel_rfl) (by kernel_rfl) (by kernel_rfl) (fun _ _ _ h => h) (Or.inl ⟨by rfl, ?_⟩) trivial ?_
        rotate_left
        · (intro w1 _; go_simp; try with_reducible rfl)
        simp only [Act.put, List.setIfInBounds_toArray, List.set_cons_zero, List.set_cons_succ]
        refine wpAnyH_take (i := 2) (oi := { dst := some 79, op := Op.move (Operand.tmp 78), type := 4, pos := "law.go:59", after := #[{ on := 1, ground := Ground.data }], guard := none }) (v := ?_) rfl (by kernel_rfl) (by kernel_rfl) (by kernel_rfl) (fun _ _ _ h => h) (Or.inl ⟨by rfl, ?_⟩) trivial ?_
        rotate_left
        · (intro w1 _; go_simp; try with_reducible rfl)
        simp only [Act.put, List.setIfInBounds_toArray, List.set_cons_zero, List.set_cons_succ]
        refine wpAnyH_take (i := 3) (oi := { dst := some 80, op := Op.load 24 (Operand.tmp 12), type := 24, pos := "law.go:59", after := #[{ on := 2, ground := Ground.guard }], guard := some (2, false) }) (v := undef) rfl (by kernel_rfl) (by kernel_rfl) (by kernel_rfl) (fun _ _ _ h => h) (Or.inr ⟨by rfl, rfl⟩) trivial ?_
        simp only [Act.put, List.setIfInBounds_toArray, List.set_cons_zero, List.set_cons_succ]
        refine wpAnyH_take (i := 4) (oi := { dst := some 81, op := Op.call { callee := Callee.value (Operand.func 9), args := #[Operand.tmp 80], argTypes := #[24] }, type := 9, pos := "law.go:59", after := #[{ on := 3, ground := Ground.data }, { on := 2, ground := Ground.chain }, { on := 2, ground := Ground.guard }], guard := some (2, false) }) (v := undef) rfl (by kernel_rfl) (by kernel_rfl) (by kernel_rfl) (fun _ _ _ h => h) (Or.inr ⟨by rfl, rfl⟩) trivial ?_
        simp only [Act.put, List.setIfInBounds_toArray, List.set_cons_zero, List.set_cons_succ]
        refine wpAnyH_take (i := 5) (oi := { dst := some 82, op := Op.move (Operand.tmp 11), type := 32, pos := "law.go:59", after := #[{ on := 2, ground := Ground.guard }], guard := some (2, false) }) (v := undef) rfl (by kernel_rfl) (by kernel_rfl) (by kernel_rfl) (fun _ _ _ h => h) (Or.inr ⟨by rfl, rfl⟩) trivial ?_
        simp only [Act.put, List.setIfInBounds_toArray, List.set_cons_zero, List.set_cons_succ]
        refine wpAnyH_take (i := 6) (oi := { dst := some 83, op := Op.convert 32 9 (Operand.tmp 82), type := 9, pos := "law.go:59", after := #[{ on := 5, ground := Ground.data }, { on := 2, ground := Ground.guard }], guard := some (2, false) }) (v := undef) rfl (by kernel_rfl) (by kernel_rfl) (by kernel_rfl) (fun _ _ _ h => h) (Or.inr ⟨by rfl, rfl⟩) trivial ?_
        simp only [Act.put, List.setIfInBounds_toArray, List.set_cons_zero, List.set_cons_succ]
        refine wpAnyH_take (i := 7) (oi := { dst := some 84, op := Op.binOp BinOp.eql 9 (Operand.tmp 81) (Operand.tmp 83) 9, type := 4, pos := "law.go:59", after := #[{ on := 4, ground := Ground.data }, { on := 6, ground := Ground.data }, { on := 2, ground := Ground.guard }], guard := some (2, false) }) (v := undef) rfl (by kernel_rfl) (by kernel_rfl) (by kernel_rfl) (fun _ _ _ h => h) (Or.inr ⟨by rfl, rfl⟩) trivial ?_
        simp only [Act.put, List.setIfInBounds_toArray, List.set_cons_zero, List.set_cons_succ]
        refine wpAnyH_take (i := 8) (oi := { dst := some 85, op := Op.pick (Operand.tmp 79) (Operand.const (Value.bool true)) (Operand.tmp 84), type := 4, pos := "law.go:59", after := #[{ on := 2, ground := Ground.data }, { on := 7, ground := Ground.data }], guard := none }) (v := ?_) rfl (by kernel_rfl) (by kernel_rfl) (by kernel_rfl) (fun _ _ _ h => h) (Or.inl ⟨by rfl, ?_⟩) trivial ?_
        rotate_left
        · (intro w1 _; go_simp; try with_reducible rfl)
        simp only [Act.put, List.setIfInBounds_toArray, List.set_cons_zero, List.set_cons_succ]
        refine wpAnyH_take (i := 9) (oi := { dst := some 86, op := Op.move (Operand.tmp 85), type := 4, pos := "law.go:59", after := #[{ on := 8, ground := Ground.data }, { on := 4, ground := Ground.chain }], guard := none }) (v := ?_) rfl (by kernel_rfl) (by kernel_rfl) (by kernel_rfl) (fun _ _ _ h => h) (Or.inl ⟨by rfl, ?_⟩) trivial ?_
        rotate_left
        · (intro w1 _; go_simp; try with_reducible rfl)
        simp only [Act.put, List.setIfInBounds_toArray, List.set_cons_zero, List.set_cons_succ]
        refine wpAnyH_take (i := 10) (oi := { dst := some 87, op := Op.move (Operand.tmp 15), type := 27, pos := "law.go:59", after := #[{ on := 9, ground := Ground.guard }], guard := some (9, true) }) (v := ?_) rfl (by kernel_rfl) (by kernel_rfl) (by kernel_rfl) (fun _ _ _ h => h) (Or.inl ⟨by rfl, ?_⟩) trivial ?_
        rotate_left
        · (intro w1 _; go_simp; try with_reducible rfl)
        simp only [Act.put, List.setIfInBounds_toArray, List.set_cons_zero, List.set_cons_succ]
        refine wpAnyH_take (i := 11) (oi := { dst := some 88, op := Op.binOp BinOp.eql 27 (Operand.tmp 87) (Operand.const (Value.int IntKind.i64 2)) 27, type := 4, pos := "law.go:59", after := #[{ on := 10, ground := Ground.data }, { on := 9, ground := Ground.guard }], guard := some (9, true) }) (v := ?_) rfl (by kernel_rfl) (by kernel_rfl) (by kernel_rfl) (fun _ _ _ h => h) (Or.inl ⟨by rfl, ?_⟩) trivial ?_
        rotate_left
        · (intro w1 _; go_simp; try with_reducible rfl)
        simp only [Act.put, List.setIfInBounds_toArray, List.set_cons_zero, List.set_cons_succ]
        refine wpAnyH_take (i := 12) (oi := { dst := some 89, op := Op.pick (Operand.tmp 86) (Operand.tmp 88) (Operand.const (Value.bool false)), type := 4, pos := "law.go:59", after := #[{ on := 9, ground := Ground.data }, { on := 11, ground := Ground.data }], guard := none }) (v := ?_) rfl (by kernel_rfl) (by kernel_rfl) (by kernel_rfl) (fun _ _ _ h => h) (Or.inl ⟨by rfl, ?_⟩) trivial ?_
        rotate_left
        · (intro w1 _; go_simp; try with_reducible rfl)
        simp only [Act.put, List.setIfInBounds_toArray, List.set_cons_zero, List.set_cons_succ]
        refine wpAnyH_take (i := 13) (oi := { dst := some 90, op := Op.move (Operand.tmp 89), type := 4, pos := "law.go:59", after := #[{ on := 12, ground := Ground.data }, { on := 9, ground := Ground.chain }], guard := none }) (v := ?_) rfl (by kernel_rfl) (by kernel_rfl) (by kernel_rfl) (fun _ _ _ h => h) (Or.inl ⟨by rfl, ?_⟩) trivial ?_
        rotate_left
        · (intro w1 _; go_simp; try with_reducible rfl)
        simp only [Act.put, List.setIfInBounds_toArray, List.set_cons_zero, List.set_cons_succ]
        refine wpAnyH_ready (rs := [14]) (by kernel_rfl) (by simp) ?_
        refine AllReadyH.cons (o := { dst := some 91, op := Op.call { callee := Callee.value (Operand.func 7), args := #[], argTypes := #[] }, type := 4, pos := "law.go:59", after := #[{ on := 13, ground := Ground.chain }, { on := 13, ground := Ground.guard }], guard := some (13, true) }) rfl (fun K hK => ?_) AllReadyH.nil
        go_simp
        refine (awake_any _ (HE.out.below (LX9.out.trans (E0.out.mono LX9.out.size)))).mono ?_
        rintro e Y3 ⟨rfl, hy⟩
        have E3 := Lib.hid (E0.out.trans (hy.mono E0.out.size))
        clear hy E0
        refine hK.out _ _ trivial (fun _ => ?_)
        clear hK K
        try simp only [Act.put, List.setIfInBounds_toArray, List.set_cons_zero, List.set_cons_succ]
        refine wpAnyH_take (i := 15) (oi := { dst := some 92, op := Op.pick (Operand.tmp 90) (Operand.tmp 91) (Operand.const (Value.bool false)), type := 4, pos := "law.go:59", after := #[{ on := 13, ground := Ground.data }, { on := 14, ground := Ground.data }], guard := none }) (v := ?_) rfl (by kernel_rfl) (by kernel_rfl) (by kernel_rfl) (fun _ _ _ h => h) (Or.inl ⟨by rfl, ?_⟩) trivial ?_
        rotate_left
        · (intro w1 _; go_simp; try with_reducible rfl)
        simp only [Act.put, List.setIfInBounds_toArray, List.set_cons_zero, List.set_cons_succ]
        refine wpAnyH_take (i := 16) (oi := { dst := some 8, op := Op.assign (Operand.tmp 92), type := 4, pos := "law.go:59", after := #[{ on := 15, ground := Ground.data }, { on := 14, ground := Ground.chain }, { on := 0, ground := Ground.phase }, { on := 1, ground := Ground.phase }, { on := 2, ground := Ground.phase }, { on := 3, ground := Ground.phase }, { on := 4, ground := Ground.phase }, { on := 5, ground := Ground.phase }, { on := 6, ground := Ground.phase }, { on := 7, ground := Ground.phase }, { on := 8, ground := Ground.phase }, { on := 9, ground := Ground.phase }, { on := 10, ground := Ground.phase }, { on := 11, ground := Ground.phase }, { on := 12, ground := Ground.phase }, { on := 13, ground := Ground.phase }, { on := 14, ground := Ground.phase }, { on := 15, ground := Ground.phase }], guard := none }) (v := ?_) rfl (by kernel_rfl) (by kernel_rfl) (by kernel_rfl) (fun _ _ _ h => h) (Or.inl ⟨by rfl, ?_⟩) trivial ?_
        rotate_left
        · (intro w1 _; go_simp; try with_reducible rfl)
        simp only [Act.put, List.setIfInBounds_toArray, List.set_cons_zero, List.set_cons_succ]
        refine wpAnyH_done (by kernel_rfl) ?_ _
        go_wp2
        go_ret
        exact ⟨rfl, LX9.out.trans (E3.out.mono LX9.out.size)⟩
  · clear h60
    rw [show vldA v bs = false by simpa using hv] at C6
    clear hc hadr hE hl hb hv
    go_enter Tryd.func4, Tryd.ntmps4
    go_wp2_with ((with_reducible refine wpList_blk_load_want (op := ⟨some 20, .load 24 (.tmp 5), _, _, _, _⟩) ?w20c 24 (.tmp 5) ?o20c w.heap.size ?x20c _ K0w.out Tryd.underlying24 ?d20c I.out ?_); (case w20c => rfl); (case o20c => rfl); (case x20c => rfl); (case d20c => rfl))
    refine (C6.out _).mono ?_
    rintro e X1 ⟨rfl, hb⟩
    have LX1 := Lib.hid (Lw.out.trans (hb.mono Lw.out.size))
    clear hb
    go_wp2_with fail
    refine (awake_any _ (HE.out.below LX1.out)).mono ?_
    rintro e X2 ⟨rfl, hb⟩
    have LX2 := Lib.hid (LX1.out.trans (hb.mono LX1.out.size))
    clear hb
    go_wp2
    go_ret
    exact ⟨rfl, LX2.out⟩
end Go.Proofs.YtjcmidgeddhfoaaDoor
