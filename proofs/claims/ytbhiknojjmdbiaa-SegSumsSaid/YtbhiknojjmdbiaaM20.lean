/- Texts that the walks of this seat lean on, put together: each has its own remark below. -/
import Derived.Test.YtbhiknojjmdbiaaM19

/- The walk of SegSums. -/
namespace Go.Proofs.Ytbhiknojjmdbiaa
open Go.RowKit

set_option maxRecDepth 100000 in
set_option maxHeartbeats 8000000 in
theorem sums_t (n : Int) (v : Bool) (a : Option Addr) (la ca : Nat) (zs : List Nat) (at0 bit who : Int) (w : World) (hr : Rd w (.slice a la ca) (nus .u8 zs)) (hL : zs.length = la) (hna : a = none → ca = 0) (hb : ∀ c ∈ zs, c < 256) :
    Calls Try.prog 7 #[.int .i64 n, .bool v, .bool false, .slice a la ca, .int .i64 at0, .int .i64 bit, .int .i64 who] w fun e w' => e = .returned (.bool true) ∧ Below w.heap.size w w' := by
  have K := Lib.hid (Below.refl w.heap.size w)
  have HR := Lib.hid hr
  by_cases h300 : 300 < la
  · have hd1 : decide ((300 : Int) < (la : Int)) = true := decide_eq_true (by omega)
    clear hr HR
    go_enter Try.func7, Try.ntmps7
    go_wp2_with fail
    refine (awake_any _).mono ?_
    rintro e V1 ⟨rfl, hy⟩
    replace K := Lib.hid (K.out.trans (hy.mono K.out.size))
    clear hy
    go_wp2
    go_ret
    exact ⟨rfl, K.out⟩
  obtain ⟨u, hu⟩ : ∃ u : Nat, u = (n % 1073741824).toNat := ⟨_, rfl⟩
  have hun : n % 1073741824 = (u : Int) := by omega
  have hul : u < 1073741824 := by omega
  obtain ⟨sp, hsp⟩ : ∃ x, x = 1000 + u % 50000 := ⟨_, rfl⟩
  have hspl : sp < 65536 := by omega
  obtain ⟨s, hs⟩ : ∃ s, s = kS u ++ List.replicate 12 0 := ⟨_, rfl⟩
  obtain ⟨d, hd⟩ : ∃ d, d = kD ++ List.replicate 12 0 := ⟨_, rfl⟩
  have ls : s.length = 16 := by rw [hs]; rfl
  have ld : d.length = 16 := by rw [hd]; rfl
  have bs : ∀ c ∈ s, c < 256 := by rw [hs]; exact kSz_lt u
  have bd : ∀ c ∈ d, c < 256 := by rw [hd]; exact kDz_lt
  have vs : vldA v s = true := by rw [hs]; exact kSz_v v u
  have vd : vldA v d = true := by rw [hd]; exact kDz_v v
  obtain ⟨S, hS⟩ : ∃ S, S = cellsA v s := ⟨_, rfl⟩
  obtain ⟨D, hD⟩ : ∃ D, D = cellsA v d := ⟨_, rfl⟩
  have zS : S.size = 17 := by rw [hS, cellsA_size, ls]
  have zD : D.size = 17 := by rw [hD, cellsA_size, ld]
  have aS : S.all (·.oneCell') = true := by rw [hS]; exact cellsA_all _ _
  have aD : D.all (·.oneCell') = true := by rw [hD]; exact cellsA_all _ _
  obtain ⟨kc, hkc⟩ : ∃ kc, kc = kcells 6 S D sp 80 := ⟨_, rfl⟩
  obtain ⟨SG, hSG⟩ : ∃ x, x = segB 6 v s d sp 80 2 zs false := ⟨_, rfl⟩
  obtain ⟨nn, hnn⟩ : ∃ x, x = SG.length := ⟨_, rfl⟩
  have lSG : nn = 20 + la := by rw [hnn, hSG, segB_len 6 (by simp), hL]; rfl
  have bSG : ∀ c ∈ SG, c < 256 := by rw [hSG]; exact segB_lt 6 v s d sp 80 2 zs false (by omega) hb
  have fSG : fs 6 SG = 0 := by rw [hSG]; exact segB_fs 6 (by simp) v s d sp 80 2 zs false (by omega)
  have gSG : gd 6 SG v s v d = true := by rw [hSG]; exact built_good 6 (by simp) v s d sp 80 2 zs false (by omega)
  have CK := Lib.hid (show ∀ W, Calls Try.prog 17 #[.int .i64 n, .bool v, .bool false] W fun e w' => e = .returned (.agg kc) ∧ Below W.heap.size W w' from fun W => by rw [hkc, hS, hD, hs, hd]; exact key_tcp n v u sp W hun hul hsp)
  have CO := Lib.hid (show ∀ W, Rd W (.slice a la ca) (nus .u8 zs) → Calls Try.prog 19 #[.agg kc, .slice a la ca, .bool false] W fun e w' => ∃ b off c, e = .returned (.slice (some ⟨b, off, none⟩) nn c) ∧ Rd w' (.slice (some ⟨b, off, none⟩) nn c) (nus .u8 SG) ∧ Below W.heap.size W w' from fun W h => by
    rw [hkc, hS, hD, hnn, hSG]; exact of_rd 6 (by simp) v s d sp 80 a la ca zs false W h hL hna hb (by omega) ls ld bs bd vs vd hspl (by omega))
  have kp1 := Lib.hid (show (kc.toList.drop 1).take S.toList.length = S.toList by rw [hkc]; exact kcells_src _ _ _ _ _)
  have kp2 := Lib.hid (show (kc.toList.drop 18).take D.toList.length = D.toList by rw [hkc]; exact kcells_dst _ _ _ _ _ zS)
  have kg := by have q := kget v s d ls ld 6 sp 80; rw [← hS, ← hD, ← hkc] at q; exact q
  have kg0 := Lib.hid kg.1
  have kg3 := Lib.hid kg.2.2.2.1
  have kg4 := Lib.hid kg.2.2.2.2
  have IS := Lib.hid (i24.trans (congrArg some (show (17 : Nat) = S.toList.length by simp [zS])))
  have ID := Lib.hid (i24.trans (congrArg some (show (17 : Nat) = D.toList.length by simp [zD])))
  have zk : kc.size = 37 := by rw [hkc]; exact kcells_size _ _ _ _ _ zS zD
  have Yk : Hid (kc.size = Array.size (#[Value.int .u8 0, .bool false, .int .u8 0, .int .u8 0, .int .u8 0, .int .u8 0, .int .u8 0, .int .u8 0, .int .u8 0, .int .u8 0, .int .u8 0, .int .u8 0, .int .u8 0, .int .u8 0, .int .u8 0, .int .u8 0, .int .u8 0, .int .u8 0, .bool false, .int .u8 0, .int .u8 0, .int .u8 0, .int .u8 0, .int .u8 0, .int .u8 0, .int .u8 0, .int .u8 0, .int .u8 0, .int .u8 0, .int .u8 0, .int .u8 0, .int .u8 0, .int .u8 0, .int .u8 0, .int .u8 0, .int .u16 0, .int .u16 0] : Array Value)) := zk
  have Zk := Lib.hid (i43.trans (congrArg some zk.symm))
  have Ak := Lib.hid (show kc.all (·.oneCell') = true by rw [hkc]; exact kcells_all _ _ _ _ _ aS aD)
  have YS : Hid (S.size = Array.size (#[Value.bool false, .int .u8 0, .int .u8 0, .int .u8 0, .int .u8 0, .int .u8 0, .int .u8 0, .int .u8 0, .int .u8 0, .int .u8 0, .int .u8 0, .int .u8 0, .int .u8 0, .int .u8 0, .int .u8 0, .int .u8 0, .int .u8 0] : Array Value)) := zS
  have ZSs := Lib.hid (i24.trans (congrArg some zS.symm))
  have AS := Lib.hid aS
  have hlm : la ≤ ca ∧ ca ≤ maxLen := by obtain ⟨a', c', e, h1, h2⟩ := rd_shape hr; cases e; omega
  obtain ⟨wi, hwi⟩ : ∃ x : Nat, x = (who % 4).toNat := ⟨_, rfl⟩
  have hwe : who % 4 = (wi : Int) := by omega
  have hwl : wi < 4 := by omega
  obtain ⟨bi, hbi⟩ : ∃ x : Nat, x = (bit % 8).toNat := ⟨_, rfl⟩
  have hbe : bit % 8 = (bi : Int) := by omega
  have hbl : bi < 8 := by omega
  obtain ⟨ii, hii⟩ : ∃ x : Nat, x = (at0 % (nn : Int)).toNat := ⟨_, rfl⟩
  have hin : 0 ≤ at0 % (nn : Int) ∧ at0 % (nn : Int) < (nn : Int) := ⟨Int.emod_nonneg _ (by omega), Int.emod_lt_of_pos _ (by omega)⟩
  have hie : at0 % (nn : Int) = (ii : Int) := by omega
  have hil : ii < nn := by omega
  have hsum : tsum 6 SG v s d % 65535 = 0 := by rw [hSG]; exact built_sum 6 (by simp) v s d sp 80 2 zs false (by simp)
  have hwo : wo 6 SG = false := by rw [hSG, built_wo 6 (by simp)]; simp
  have g2 : gd 6 SG v (turn s wi bi) v d = false := gd_no 6 SG v _ d hwo (turn_addr 6 SG v s d wi bi bs ls ld hbl hwl hsum)
  have g3 : (6 = 17 ∧ (turn SG ii bi).getD 6 0 = 0 ∧ (turn SG ii bi).getD 7 0 = 0) ∨ gd 6 (turn SG ii bi) v s v d = false := by
    by_cases h : 6 = 17 ∧ (turn SG ii bi).getD 6 0 = 0 ∧ (turn SG ii bi).getD 7 0 = 0
    · exact .inl h
    · refine .inr (gd_no 6 _ v s d (decide_eq_false ?_) (turn_sum 6 SG v s d ii bi bSG hbl (by omega) hsum))
      intro h2
      have h3 : (turn SG ii bi).getD 6 0 * 256 + (turn SG ii bi).getD 7 0 = 0 := h2.2
      exact h ⟨h2.1, by omega, by omega⟩
  have lC : (turn SG ii bi).length = nn := by rw [turn_len, hnn]
  have bC := turn_lt SG ii bi bSG hbl
  have CG1 := Lib.hid (fun W z (h : Rd W z (nus .u8 SG)) => good_any 6 z SG v s v d W h bSG (by omega) (by omega) ls ld bs bd)
  rw [gSG] at CG1
  have CG2 := Lib.hid (fun W z (h : Rd W z (nus .u8 SG)) => good_any 6 z SG v (turn s wi bi) v d W h bSG (by omega) (by omega) (by rw [turn_len]; exact ls) ld (turn_lt s wi bi bs hbl) bd)
  rw [g2] at CG2
  have CG3 := Lib.hid (fun W z (h : Rd W z (nus .u8 (turn SG ii bi))) => good_any 6 z (turn SG ii bi) v s v d W h bC (by omega) (by omega) ls ld bs bd)
  unfold adr at CG1 CG2 CG3
  rw [← hS, ← hD] at CG1 CG3
  rw [← hD] at CG2
  have CR1 := Lib.hid (fun W => round_any who 4 W (by omega) (by omega))
  have CR2 := Lib.hid (fun W => round_any bit 8 W (by omega) (by omega))
  have CR3 := Lib.hid (fun W => round_any at0 nn W (by omega) (by omega))
  rw [hwe] at CR1
  rw [hbe] at CR2
  rw [hie] at CR3
  have yS : S[1 + wi]? = some (.int .u8 (s.getD wi 0 : Nat)) := by rw [hS]; exact cellsA_get v s wi (by omega)
  have ty := getD_lt s bs wi
  have tz2 := getD_lt SG bSG ii
  have xv1 := Lib.hid (xor_val' (s.getD wi 0) bi ty hbl)
  have xv2 := Lib.hid (xor_val' (SG.getD ii 0) bi tz2 hbl)
  have eS2 : Hid (S.setIfInBounds (1 + wi) (.int .u8 ((s.getD wi 0 ^^^ 2 ^ bi : Nat) : Int)) = cellsA v (turn s wi bi)) := by show _ = _; rw [hS, cellsA_set]; rfl
  have eC2 : Hid (SG.set ii (SG.getD ii 0 ^^^ 2 ^ bi) = turn SG ii bi) := rfl
  obtain ⟨y1, hy1⟩ : ∃ y, y = s.getD wi 0 := ⟨_, rfl⟩
  rw [← hy1] at yS ty xv1 eS2
  obtain ⟨y2, hy2⟩ : ∃ y, y = SG.getD ii 0 := ⟨_, rfl⟩
  rw [← hy2] at tz2 xv2 eC2
  have HY2 := Lib.hid hy2
  obtain ⟨x1, hx1⟩ : ∃ y, y = y1 ^^^ 2 ^ bi := ⟨_, rfl⟩
  rw [← hx1] at xv1 eS2
  obtain ⟨x2, hx2⟩ : ∃ y, y = y2 ^^^ 2 ^ bi := ⟨_, rfl⟩
  rw [← hx2] at xv2 eC2
  have zS2 : (cellsA v (turn s wi bi)).size = 17 := by rw [cellsA_size, turn_len, ls]
  have IS2 := Lib.hid (i24.trans (congrArg some zS2.symm))
  have G3 := Lib.hid g3
  have HLC := Lib.hid lC
  have HLS := Lib.hid hnn
  have YS1 := Lib.hid yS
  have hnn8 : 8 ≤ nn := by omega
  have hnl : nn ≤ 320 := by omega
  have hd1 : decide ((300 : Int) < (la : Int)) = false := decide_eq_false (by omega)
  have hd2 : decide ((nn : Int) < 8) = false := decide_eq_false (by omega)
  have hbS : ∀ x, (turn SG ii bi).getD x 0 < 256 := getD_lt _ bC
  have HBS := Lib.hid hbS
  clear hr hL hna hb hu hun hul hsp hspl hs hd ls ld bs bd vs vd hS hD zS zD aS aD hkc hSG lSG bSG fSG gSG kg zk hwi hwe hbi hbe hii hie hin hsum hwo g2 g3 lC bC yS hy1 hy2 hx1 hx2 zS2 hbS hnn
  generalize cellsA v (turn s wi bi) = S2 at *
  generalize turn SG ii bi = CC at *
  generalize gd 6 CC v s v d = gq at *
  have hm4 : (wi : Int) < 16 ∧ (0 : Int) ≤ wi := by omega
  unfold maxLen at hlm
  go_enter Try.func7, Try.ntmps7
  go_wp2_with fail
  refine (CK.out _).mono ?_
  rintro e V1 ⟨rfl, hy⟩
  replace K := Lib.hid (K.out.trans (hy.mono K.out.size))
  clear hy
  go_wp2_with (((with_reducible refine wpList_blk_store (op := ⟨none, .store 43 (.tmp 15) (.tmp 28), _, _, _, _⟩) ?sg1 43 (.tmp 15) (.tmp 28) ?so1 (V1.heap.size) kc ?sx1 ?sy1 (Blk.new V1 43 #[Value.int .u8 0, .bool false, .int .u8 0, .int .u8 0, .int .u8 0, .int .u8 0, .int .u8 0, .int .u8 0, .int .u8 0, .int .u8 0, .int .u8 0, .int .u8 0, .int .u8 0, .int .u8 0, .int .u8 0, .int .u8 0, .int .u8 0, .int .u8 0, .bool false, .int .u8 0, .int .u8 0, .int .u8 0, .int .u8 0, .int .u8 0, .int .u8 0, .int .u8 0, .int .u8 0, .int .u8 0, .int .u8 0, .int .u8 0, .int .u8 0, .int .u8 0, .int .u8 0, .int .u8 0, .int .u8 0, .int .u16 0, .int .u16 0]) Yk.out Zk.out Ak.out ?_); (case sg1 => rfl); (case so1 => rfl); (case sx1 => rfl); (case sy1 => rfl)))
  intro V2 hA hF hB
  have hy := ((Below.refl V1.heap.size V1).alloc (Nat.le_refl _) (.cells #[Value.int .u8 0, .bool false, .int .u8 0, .int .u8 0, .int .u8 0, .int .u8 0, .int .u8 0, .int .u8 0, .int .u8 0, .int .u8 0, .int .u8 0, .int .u8 0, .int .u8 0, .int .u8 0, .int .u8 0, .int .u8 0, .int .u8 0, .int .u8 0, .bool false, .int .u8 0, .int .u8 0, .int .u8 0, .int .u8 0, .int .u8 0, .int .u8 0, .int .u8 0, .int .u8 0, .int .u8 0, .int .u8 0, .int .u8 0, .int .u8 0, .int .u8 0, .int .u8 0, .int .u8 0, .int .u8 0, .int .u16 0, .int .u16 0] 43)).trans (hB _ (Nat.le_refl _))
  replace K := Lib.hid (K.out.trans (hy.mono K.out.size))
  have NK := Lib.hid hA
  clear hA hF hB hy
  have L2 : (loadVar 43 ⟨V1.heap.size, 0, none⟩).run Try.prog V2 = .ok (.agg kc) V2 := run_blk_load (P := Try.prog) 43 (V1.heap.size) _ NK.out Try.underlying43 rfl Zk.out
  replace L2 := Lib.hid L2
  go_wp2_with (((with_reducible refine wpList_load_want (op := ⟨some 29, .load 43 (.tmp 15), _, _, _, _⟩) ?wg2 43 (.tmp 15) ?wo2 ⟨V1.heap.size, 0, none⟩ ?wx2 (.agg kc) L2.out ?_); (case wg2 => rfl); (case wo2 => rfl); (case wx2 => rfl)))
  clear L2
  refine (CO.out _ (HR.out.below K.out)).mono ?_
  rintro e V3 ⟨gb, ob, cb, rfl, rb, hy⟩
  replace K := Lib.hid (K.out.trans (hy.mono K.out.size))
  replace NK := Lib.hid (NK.out.below hy NK.out.lt)
  have R := Lib.hid (rb)
  clear rb
  clear hy
  have L3 := (NK.out.cell 0).trans kg0.out
  have L4 : (loadVar 26 ⟨V1.heap.size, 1, none⟩).run Try.prog V3 = .ok (.agg S) V3 := by have h := run_part_load (P := Try.prog) 26 1 S.toList _ NK.out kp1.out Try.underlying26 rfl IS.out; rwa [Array.toArray_toList] at h
  replace L4 := Lib.hid L4
  have L5 : (loadVar 26 ⟨V1.heap.size, 18, none⟩).run Try.prog V3 = .ok (.agg D) V3 := by have h := run_part_load (P := Try.prog) 26 18 D.toList _ NK.out kp2.out Try.underlying26 rfl ID.out; rwa [Array.toArray_toList] at h
  replace L5 := Lib.hid L5
  go_wp2_with (first | ((with_reducible refine wpList_load_want (op := ⟨some 40, .load 26 (.tmp 39), _, _, _, _⟩) ?wg4 26 (.tmp 39) ?wo4 ⟨V1.heap.size, 1, none⟩ ?wx4 (.agg S) L4.out ?_); (case wg4 => rfl); (case wo4 => rfl); (case wx4 => rfl)) | ((with_reducible refine wpList_load_want (op := ⟨some 42, .load 26 (.tmp 41), _, _, _, _⟩) ?wg5 26 (.tmp 41) ?wo5 ⟨V1.heap.size, 18, none⟩ ?wx5 (.agg D) L5.out ?_); (case wg5 => rfl); (case wo5 => rfl); (case wx5 => rfl)))
  clear L3 L4 L5
  refine (CG1.out _ _ R.out).mono ?_
  rintro e V4 ⟨rfl, hy⟩
  replace K := Lib.hid (K.out.trans (hy.mono K.out.size))
  replace NK := Lib.hid (NK.out.below hy NK.out.lt)
  replace R := Lib.hid (R.out.below hy)
  clear hy
  have qRX := rd_lt R.out (by omega)
  have qNKX := NK.out.lt
  have hKX := K.out.size
  have L6 : (loadVar 26 ⟨V1.heap.size, 1, none⟩).run Try.prog V4 = .ok (.agg S) V4 := by have h := run_part_load (P := Try.prog) 26 1 S.toList _ NK.out kp1.out Try.underlying26 rfl IS.out; rwa [Array.toArray_toList] at h
  replace L6 := Lib.hid L6
  go_wp2_with (first | ((with_reducible refine wpList_load_want (op := ⟨some 47, .load 26 (.tmp 46), _, _, _, _⟩) ?wg6 26 (.tmp 46) ?wo6 ⟨V1.heap.size, 1, none⟩ ?wx6 (.agg S) L6.out ?_); (case wg6 => rfl); (case wo6 => rfl); (case wx6 => rfl)) | ((with_reducible refine wpList_blk_store (op := ⟨none, .store 26 (.tmp 17) (.tmp 47), _, _, _, _⟩) ?sg7 26 (.tmp 17) (.tmp 47) ?so7 (V4.heap.size) S ?sx7 ?sy7 (Blk.new V4 26 #[Value.bool false, .int .u8 0, .int .u8 0, .int .u8 0, .int .u8 0, .int .u8 0, .int .u8 0, .int .u8 0, .int .u8 0, .int .u8 0, .int .u8 0, .int .u8 0, .int .u8 0, .int .u8 0, .int .u8 0, .int .u8 0, .int .u8 0]) YS.out ZSs.out AS.out ?_); (case sg7 => rfl); (case so7 => rfl); (case sx7 => rfl); (case sy7 => rfl)))
  clear L6
  have qNKNX : V1.heap.size < V4.heap.size := NK.out.lt
  intro V5 hA hF hB
  have hy := ((Below.refl V4.heap.size V4).alloc (Nat.le_refl _) (.cells #[Value.bool false, .int .u8 0, .int .u8 0, .int .u8 0, .int .u8 0, .int .u8 0, .int .u8 0, .int .u8 0, .int .u8 0, .int .u8 0, .int .u8 0, .int .u8 0, .int .u8 0, .int .u8 0, .int .u8 0, .int .u8 0, .int .u8 0] 26)).trans (hB _ (Nat.le_refl _))
  replace K := Lib.hid (K.out.trans (hy.mono K.out.size))
  replace NK := Lib.hid (NK.out.below hy NK.out.lt)
  replace R := Lib.hid (R.out.below hy)
  have NX := Lib.hid hA
  clear hA hF hB hy
  go_wp2_with fail
  go_wp2_with fail
  have m0 : w.heap.size ≤ V4.heap.size := hKX
  have m1 : V4.heap.size < V5.heap.size := NX.out.lt
  go_wp2_with fail
  refine wp_region_still_tail 11 (by kernel_rfl) (by kernel_rfl) ?_
  change wpStill _ _ V5.drew (fun a' => wpList _ _ _ _ a' V5.drew) _ _
  have hy := (Below.refl V5.heap.size V5).drew
  replace K := Lib.hid (K.out.trans (hy.mono K.out.size))
  replace NK := Lib.hid (NK.out.below hy NK.out.lt)
  replace R := Lib.hid (R.out.below hy)
  replace NX := Lib.hid (NX.out.below hy NX.out.lt)
  clear hy
  generalize V5.drew = V6 at *
  have c1 := (NX.out.cell (1 + wi)).trans YS1.out
  have f1 := NX.out.frozen (1 + wi)
  simp only [List.take_succ_cons, List.take_zero, List.drop_succ_cons, List.drop_zero]
  still_step
  still_call ((CR1.out _).mono fun e w' h => ⟨h.1, h.2.symm⟩)
  still_step
  still_step
  still_step
  still_step
  still_call ((CR2.out _).mono fun e w' h => ⟨h.1, h.2.symm⟩)
  still_step
  still_step
  still_step
  still_step
  refine wpStill_nil ?_
  try simp only [Act.put, List.setIfInBounds_toArray, List.set_cons_zero, List.set_cons_succ]
  go_upto_region 9 with fail
  rw [xv1.out]
  have nx := NX.out.set_ (1 + wi) (.int .u8 (x1 : Int))
  rw [eS2.out] at nx
  have hB := (Below.refl V4.heap.size V6).setCell (Nat.le_refl _) (p := ⟨V4.heap.size, 1 + wi, none⟩) (.int .u8 (x1 : Int))
  replace K := Lib.hid (K.out.trans (hB.mono m0))
  replace NK := Lib.hid (NK.out.below hB qNKX)
  replace R := Lib.hid (rd_keep R.out hB qRX)
  replace NX := Lib.hid nx
  clear c1 f1 nx eS2 xv1 YS1
  generalize V6.setCell ⟨V4.heap.size, 1 + wi, none⟩ (.int .u8 (x1 : Int)) = V7 at K NK R NX hB ⊢
  have m2 : V4.heap.size < V7.heap.size := NX.out.lt
  have m3 := NK.out.lt
  have m4 := rd_lt R.out (by omega)
  have hKv := K.out.size
  clear hB
  have L := Lib.hid (Below.refl V7.heap.size V7)
  have hal := (Below.refl V7.heap.size V7).alloc (Nat.le_refl _) (.cells #[] 5)
  have O := Lib.hid (own_low (b1 := V7.heap.size) L.out.size (own_none V7 5))
  replace L := Lib.hid (L.out.trans (hal.mono L.out.size))
  clear hal
  go_wp2_with ((at_builtin; refine wpList_app rfl (.tmp 59) (.tmp 60) rfl V7.heap.size _ (0) [] rfl O.out (some ⟨gb, ob, none⟩) (nn) (cb) SG rfl (R.out.below L.out) (by intro e; cases e) ?ap8b ?ap8c ?ap8d))
  case ap8b => omega
  case ap8c => first | exact L.out.size | (have q := L.out.size; simp only [World.size_alloc] at q; exact q)
  intro vx V8 oz gz
  replace L := Lib.hid (L.out.grown gz L.out.size (fun k e => by first | exact (O.out.lt k e).1 | (cases e; first | exact Nat.le_refl _ | omega)))
  have oz : V8.ownsRow V7.heap.size 5 1 vx (nn) (nus .u8 (SG)) := by first | exact oz | simpa using oz
  replace O := Lib.hid oz
  obtain ⟨gc, cc, rfl, hcc, hccm, hgc, hgcu⟩ := own_at O.out (by omega)
  clear oz gz
  have hy := L.out
  replace K := Lib.hid (K.out.trans (hy.mono K.out.size))
  replace NK := Lib.hid (NK.out.below hy NK.out.lt)
  replace R := Lib.hid (R.out.below hy)
  replace NX := Lib.hid (NX.out.below hy NX.out.lt)
  clear hy L
  go_wp2_with fail
  refine (CR3.out _).mono ?_
  rintro e V9 ⟨rfl, rfl⟩
  go_wp2_with fail
  go_wp2_with fail
  refine wp_region_still_tail 9 (by kernel_rfl) (by kernel_rfl) ?_
  change wpStill _ _ V8.drew (fun a' => wpList _ _ _ _ a' V8.drew) _ _
  have hy := (Below.refl V8.heap.size V8).drew
  replace K := Lib.hid (K.out.trans (hy.mono K.out.size))
  replace NK := Lib.hid (NK.out.below hy NK.out.lt)
  replace R := Lib.hid (R.out.below hy)
  replace NX := Lib.hid (NX.out.below hy NX.out.lt)
  replace O := Lib.hid (row_under O.out hy)
  clear hy
  generalize V8.drew = V10 at *
  have c2 := O.out.cellAt ii (by omega)
  rw [nus_get _ _ _ (by rw [← HLS.out]; exact hil), ← HY2.out] at c2
  have f2 := O.out.frozenAt ii
  have b2 : (0 : Int) ≤ (ii : Int) ∧ (ii : Int) < (nn : Int) := by omega
  simp only [List.take_succ_cons, List.take_zero, List.drop_succ_cons, List.drop_zero]
  still_step
  still_step
  still_step
  still_step
  still_step
  still_call ((CR2.out _).mono fun e w' h => ⟨h.1, h.2.symm⟩)
  still_step
  still_step
  still_step
  refine wpStill_nil ?_
  try simp only [Act.put, List.setIfInBounds_toArray, List.set_cons_zero, List.set_cons_succ]
  go_upto_region 12 with fail
  rw [xv2.out]
  have hst := O.out.stored ii (.int .u8 (x2 : Int))
  rw [nus_set, eC2.out] at hst
  have gr : V10.grownBy (V10.setCell ⟨gc, ii, none⟩ (.int .u8 (x2 : Int))) (some gc) := hst.2
  have sz9 : V7.heap.size ≤ V10.heap.size := by have q1 := own_in O.out; omega
  have hB := (Below.refl V7.heap.size V10).grown gr sz9 (fun k e => by cases e; exact hgc)
  replace O := Lib.hid hst.1
  replace K := Lib.hid (K.out.trans (hB.mono hKv))
  replace NK := Lib.hid (NK.out.below hB m3)
  replace NX := Lib.hid (NX.out.below hB m2)
  replace R := Lib.hid (rd_keep R.out hB m4)
  clear c2 f2 b2 hst gr xv2 eC2 HY2
  generalize V10.setCell ⟨gc, ii, none⟩ (.int .u8 (x2 : Int)) = V11 at K NK R NX O hB ⊢
  clear hB
  have c6 := O.out.cellAt 6 (by omega)
  have c7 := O.out.cellAt 7 (by omega)
  rw [nus_get _ _ _ (by rw [HLC.out]; omega)] at c6 c7
  have l6 : (6 : Int) < (nn : Int) := by omega
  have l7 : (7 : Int) < (nn : Int) := by omega
  have t6 := HBS.out 6
  have t7 := HBS.out 7
  have G4 := G3.out
  generalize CC.getD 6 0 = y6 at *
  generalize CC.getD 7 0 = y7 at *
  obtain rfl : gq = false := by
    rcases G4 with h | h
    · exact absurd h.1 (by omega)
    · exact h
  clear G4 G3
  have OR := Lib.hid (Rd.own O.out)
  have L9 := (NK.out.cell 0).trans kg0.out
  have L10 : (loadVar 26 ⟨V4.heap.size, 0, none⟩).run Try.prog V11 = .ok (.agg S2) V11 := run_blk_load (P := Try.prog) 26 (V4.heap.size) _ NX.out Try.underlying26 rfl IS2.out
  replace L10 := Lib.hid L10
  have L11 : (loadVar 26 ⟨V1.heap.size, 18, none⟩).run Try.prog V11 = .ok (.agg D) V11 := by have h := run_part_load (P := Try.prog) 26 18 D.toList _ NK.out kp2.out Try.underlying26 rfl ID.out; rwa [Array.toArray_toList] at h
  replace L11 := Lib.hid L11
  go_wp2_with (first | ((with_reducible refine wpList_load_want (op := ⟨some 91, .load 26 (.tmp 17), _, _, _, _⟩) ?wg10 26 (.tmp 17) ?wo10 ⟨V4.heap.size, 0, none⟩ ?wx10 (.agg S2) L10.out ?_); (case wg10 => rfl); (case wo10 => rfl); (case wx10 => rfl)) | ((with_reducible refine wpList_load_want (op := ⟨some 93, .load 26 (.tmp 92), _, _, _, _⟩) ?wg11 26 (.tmp 92) ?wo11 ⟨V1.heap.size, 18, none⟩ ?wx11 (.agg D) L11.out ?_); (case wg11 => rfl); (case wo11 => rfl); (case wx11 => rfl)))
  clear L9 L10 L11
  refine (CG2.out _ _ R.out).mono ?_
  rintro e V12 ⟨rfl, hy⟩
  replace K := Lib.hid (K.out.trans (hy.mono K.out.size))
  replace NK := Lib.hid (NK.out.below hy NK.out.lt)
  replace R := Lib.hid (R.out.below hy)
  replace NX := Lib.hid (NX.out.below hy NX.out.lt)
  replace OR := Lib.hid (OR.out.below hy)
  clear hy
  have L12 := (NK.out.cell 0).trans kg0.out
  have L13 : (loadVar 26 ⟨V1.heap.size, 1, none⟩).run Try.prog V12 = .ok (.agg S) V12 := by have h := run_part_load (P := Try.prog) 26 1 S.toList _ NK.out kp1.out Try.underlying26 rfl IS.out; rwa [Array.toArray_toList] at h
  replace L13 := Lib.hid L13
  have L14 : (loadVar 26 ⟨V1.heap.size, 18, none⟩).run Try.prog V12 = .ok (.agg D) V12 := by have h := run_part_load (P := Try.prog) 26 18 D.toList _ NK.out kp2.out Try.underlying26 rfl ID.out; rwa [Array.toArray_toList] at h
  replace L14 := Lib.hid L14
  go_wp2_with (first | ((with_reducible refine wpList_load_want (op := ⟨some 103, .load 26 (.tmp 102), _, _, _, _⟩) ?wg13 26 (.tmp 102) ?wo13 ⟨V1.heap.size, 1, none⟩ ?wx13 (.agg S) L13.out ?_); (case wg13 => rfl); (case wo13 => rfl); (case wx13 => rfl)) | ((with_reducible refine wpList_load_want (op := ⟨some 105, .load 26 (.tmp 104), _, _, _, _⟩) ?wg14 26 (.tmp 104) ?wo14 ⟨V1.heap.size, 18, none⟩ ?wx14 (.agg D) L14.out ?_); (case wg14 => rfl); (case wo14 => rfl); (case wx14 => rfl)))
  clear L12 L13 L14
  refine (CG3.out _ _ OR.out).mono ?_
  rintro e V13 ⟨rfl, hy⟩
  replace K := Lib.hid (K.out.trans (hy.mono K.out.size))
  replace NK := Lib.hid (NK.out.below hy NK.out.lt)
  replace R := Lib.hid (R.out.below hy)
  replace NX := Lib.hid (NX.out.below hy NX.out.lt)
  replace OR := Lib.hid (OR.out.below hy)
  clear hy
  go_wp2_with fail
  refine (awake_any _).mono ?_
  rintro e V14 ⟨rfl, hy⟩
  replace K := Lib.hid (K.out.trans (hy.mono K.out.size))
  replace NK := Lib.hid (NK.out.below hy NK.out.lt)
  replace R := Lib.hid (R.out.below hy)
  replace NX := Lib.hid (NX.out.below hy NX.out.lt)
  replace OR := Lib.hid (OR.out.below hy)
  clear hy
  go_wp2
  go_ret
  exact ⟨rfl, K.out⟩

set_option maxRecDepth 100000 in
set_option maxHeartbeats 8000000 in
theorem sums_u (n : Int) (v : Bool) (a : Option Addr) (la ca : Nat) (zs : List Nat) (at0 bit who : Int) (w : World) (hr : Rd w (.slice a la ca) (nus .u8 zs)) (hL : zs.length = la) (hna : a = none → ca = 0) (hb : ∀ c ∈ zs, c < 256) :
    Calls Try.prog 7 #[.int .i64 n, .bool v, .bool true, .slice a la ca, .int .i64 at0, .int .i64 bit, .int .i64 who] w fun e w' => e = .returned (.bool true) ∧ Below w.heap.size w w' := by
  have K := Lib.hid (Below.refl w.heap.size w)
  have HR := Lib.hid hr
  by_cases h300 : 300 < la
  · have hd1 : decide ((300 : Int) < (la : Int)) = true := decide_eq_true (by omega)
    clear hr HR
    go_enter Try.func7, Try.ntmps7
    go_wp2_with fail
    refine (awake_any _).mono ?_
    rintro e V1 ⟨rfl, hy⟩
    replace K := Lib.hid (K.out.trans (hy.mono K.out.size))
    clear hy
    go_wp2
    go_ret
    exact ⟨rfl, K.out⟩
  obtain ⟨u, hu⟩ : ∃ u : Nat, u = (n % 1073741824).toNat := ⟨_, rfl⟩
  have hun : n % 1073741824 = (u : Int) := by omega
  have hul : u < 1073741824 := by omega
  obtain ⟨sp, hsp⟩ : ∃ x, x = 1000 + u % 50000 := ⟨_, rfl⟩
  have hspl : sp < 65536 := by omega
  obtain ⟨s, hs⟩ : ∃ s, s = kS u ++ List.replicate 12 0 := ⟨_, rfl⟩
  obtain ⟨d, hd⟩ : ∃ d, d = kD ++ List.replicate 12 0 := ⟨_, rfl⟩
  have ls : s.length = 16 := by rw [hs]; rfl
  have ld : d.length = 16 := by rw [hd]; rfl
  have bs : ∀ c ∈ s, c < 256 := by rw [hs]; exact kSz_lt u
  have bd : ∀ c ∈ d, c < 256 := by rw [hd]; exact kDz_lt
  have vs : vldA v s = true := by rw [hs]; exact kSz_v v u
  have vd : vldA v d = true := by rw [hd]; exact kDz_v v
  obtain ⟨S, hS⟩ : ∃ S, S = cellsA v s := ⟨_, rfl⟩
  obtain ⟨D, hD⟩ : ∃ D, D = cellsA v d := ⟨_, rfl⟩
  have zS : S.size = 17 := by rw [hS, cellsA_size, ls]
  have zD : D.size = 17 := by rw [hD, cellsA_size, ld]
  have aS : S.all (·.oneCell') = true := by rw [hS]; exact cellsA_all _ _
  have aD : D.all (·.oneCell') = true := by rw [hD]; exact cellsA_all _ _
  obtain ⟨kc, hkc⟩ : ∃ kc, kc = kcells 17 S D sp 80 := ⟨_, rfl⟩
  obtain ⟨SG, hSG⟩ : ∃ x, x = segB 17 v s d sp 80 2 zs false := ⟨_, rfl⟩
  obtain ⟨nn, hnn⟩ : ∃ x, x = SG.length := ⟨_, rfl⟩
  have lSG : nn = 8 + la := by rw [hnn, hSG, segB_len 17 (by simp), hL]; rfl
  have bSG : ∀ c ∈ SG, c < 256 := by rw [hSG]; exact segB_lt 17 v s d sp 80 2 zs false (by omega) hb
  have fSG : fs 17 SG = 0 := by rw [hSG]; exact segB_fs 17 (by simp) v s d sp 80 2 zs false (by omega)
  have gSG : gd 17 SG v s v d = true := by rw [hSG]; exact built_good 17 (by simp) v s d sp 80 2 zs false (by omega)
  have CK := Lib.hid (show ∀ W, Calls Try.prog 17 #[.int .i64 n, .bool v, .bool true] W fun e w' => e = .returned (.agg kc) ∧ Below W.heap.size W w' from fun W => by rw [hkc, hS, hD, hs, hd]; exact key_udp n v u sp W hun hul hsp)
  have CO := Lib.hid (show ∀ W, Rd W (.slice a la ca) (nus .u8 zs) → Calls Try.prog 19 #[.agg kc, .slice a la ca, .bool false] W fun e w' => ∃ b off c, e = .returned (.slice (some ⟨b, off, none⟩) nn c) ∧ Rd w' (.slice (some ⟨b, off, none⟩) nn c) (nus .u8 SG) ∧ Below W.heap.size W w' from fun W h => by
    rw [hkc, hS, hD, hnn, hSG]; exact of_rd 17 (by simp) v s d sp 80 a la ca zs false W h hL hna hb (by omega) ls ld bs bd vs vd hspl (by omega))
  have kp1 := Lib.hid (show (kc.toList.drop 1).take S.toList.length = S.toList by rw [hkc]; exact kcells_src _ _ _ _ _)
  have kp2 := Lib.hid (show (kc.toList.drop 18).take D.toList.length = D.toList by rw [hkc]; exact kcells_dst _ _ _ _ _ zS)
  have kg := by have q := kget v s d ls ld 17 sp 80; rw [← hS, ← hD, ← hkc] at q; exact q
  have kg0 := Lib.hid kg.1
  have kg3 := Lib.hid kg.2.2.2.1
  have kg4 := Lib.hid kg.2.2.2.2
  have IS := Lib.hid (i24.trans (congrArg some (show (17 : Nat) = S.toList.length by simp [zS])))
  have ID := Lib.hid (i24.trans (congrArg some (show (17 : Nat) = D.toList.length by simp [zD])))
  have zk : kc.size = 37 := by rw [hkc]; exact kcells_size _ _ _ _ _ zS zD
  have Yk : Hid (kc.size = Array.size (#[Value.int .u8 0, .bool false, .int .u8 0, .int .u8 0, .int .u8 0, .int .u8 0, .int .u8 0, .int .u8 0, .int .u8 0, .int .u8 0, .int .u8 0, .int .u8 0, .int .u8 0, .int .u8 0, .int .u8 0, .int .u8 0, .int .u8 0, .int .u8 0, .bool false, .int .u8 0, .int .u8 0, .int .u8 0, .int .u8 0, .int .u8 0, .int .u8 0, .int .u8 0, .int .u8 0, .int .u8 0, .int .u8 0, .int .u8 0, .int .u8 0, .int .u8 0, .int .u8 0, .int .u8 0, .int .u8 0, .int .u16 0, .int .u16 0] : Array Value)) := zk
  have Zk := Lib.hid (i43.trans (congrArg some zk.symm))
  have Ak := Lib.hid (show kc.all (·.oneCell') = true by rw [hkc]; exact kcells_all _ _ _ _ _ aS aD)
  have YS : Hid (S.size = Array.size (#[Value.bool false, .int .u8 0, .int .u8 0, .int .u8 0, .int .u8 0, .int .u8 0, .int .u8 0, .int .u8 0, .int .u8 0, .int .u8 0, .int .u8 0, .int .u8 0, .int .u8 0, .int .u8 0, .int .u8 0, .int .u8 0, .int .u8 0] : Array Value)) := zS
  have ZSs := Lib.hid (i24.trans (congrArg some zS.symm))
  have AS := Lib.hid aS
  have hlm : la ≤ ca ∧ ca ≤ maxLen := by obtain ⟨a', c', e, h1, h2⟩ := rd_shape hr; cases e; omega
  obtain ⟨wi, hwi⟩ : ∃ x : Nat, x = (who % 4).toNat := ⟨_, rfl⟩
  have hwe : who % 4 = (wi : Int) := by omega
  have hwl : wi < 4 := by omega
  obtain ⟨bi, hbi⟩ : ∃ x : Nat, x = (bit % 8).toNat := ⟨_, rfl⟩
  have hbe : bit % 8 = (bi : Int) := by omega
  have hbl : bi < 8 := by omega
  obtain ⟨ii, hii⟩ : ∃ x : Nat, x = (at0 % (nn : Int)).toNat := ⟨_, rfl⟩
  have hin : 0 ≤ at0 % (nn : Int) ∧ at0 % (nn : Int) < (nn : Int) := ⟨Int.emod_nonneg _ (by omega), Int.emod_lt_of_pos _ (by omega)⟩
  have hie : at0 % (nn : Int) = (ii : Int) := by omega
  have hil : ii < nn := by omega
  have hsum : tsum 17 SG v s d % 65535 = 0 := by rw [hSG]; exact built_sum 17 (by simp) v s d sp 80 2 zs false (by simp)
  have hwo : wo 17 SG = false := by rw [hSG, built_wo 17 (by simp)]; simp
  have g2 : gd 17 SG v (turn s wi bi) v d = false := gd_no 17 SG v _ d hwo (turn_addr 17 SG v s d wi bi bs ls ld hbl hwl hsum)
  have g3 : (17 = 17 ∧ (turn SG ii bi).getD 6 0 = 0 ∧ (turn SG ii bi).getD 7 0 = 0) ∨ gd 17 (turn SG ii bi) v s v d = false := by
    by_cases h : 17 = 17 ∧ (turn SG ii bi).getD 6 0 = 0 ∧ (turn SG ii bi).getD 7 0 = 0
    · exact .inl h
    · refine .inr (gd_no 17 _ v s d (decide_eq_false ?_) (turn_sum 17 SG v s d ii bi bSG hbl (by omega) hsum))
      intro h2
      have h3 : (turn SG ii bi).getD 6 0 * 256 + (turn SG ii bi).getD 7 0 = 0 := h2.2
      exact h ⟨h2.1, by omega, by omega⟩
  have lC : (turn SG ii bi).length = nn := by rw [turn_len, hnn]
  have bC := turn_lt SG ii bi bSG hbl
  have CG1 := Lib.hid (fun W z (h : Rd W z (nus .u8 SG)) => good_any 17 z SG v s v d W h bSG (by omega) (by omega) ls ld bs bd)
  rw [gSG] at CG1
  have CG2 := Lib.hid (fun W z (h : Rd W z (nus .u8 SG)) => good_any 17 z SG v (turn s wi bi) v d W h bSG (by omega) (by omega) (by rw [turn_len]; exact ls) ld (turn_lt s wi bi bs hbl) bd)
  rw [g2] at CG2
  have CG3 := Lib.hid (fun W z (h : Rd W z (nus .u8 (turn SG ii bi))) => good_any 17 z (turn SG ii bi) v s v d W h bC (by omega) (by omega) ls ld bs bd)
  unfold adr at CG1 CG2 CG3
  rw [← hS, ← hD] at CG1 CG3
  rw [← hD] at CG2
  have CR1 := Lib.hid (fun W => round_any who 4 W (by omega) (by omega))
  have CR2 := Lib.hid (fun W => round_any bit 8 W (by omega) (by omega))
  have CR3 := Lib.hid (fun W => round_any at0 nn W (by omega) (by omega))
  rw [hwe] at CR1
  rw [hbe] at CR2
  rw [hie] at CR3
  have yS : S[1 + wi]? = some (.int .u8 (s.getD wi 0 : Nat)) := by rw [hS]; exact cellsA_get v s wi (by omega)
  have ty := getD_lt s bs wi
  have tz2 := getD_lt SG bSG ii
  have xv1 := Lib.hid (xor_val' (s.getD wi 0) bi ty hbl)
  have xv2 := Lib.hid (xor_val' (SG.getD ii 0) bi tz2 hbl)
  have eS2 : Hid (S.setIfInBounds (1 + wi) (.int .u8 ((s.getD wi 0 ^^^ 2 ^ bi : Nat) : Int)) = cellsA v (turn s wi bi)) := by show _ = _; rw [hS, cellsA_set]; rfl
  have eC2 : Hid (SG.set ii (SG.getD ii 0 ^^^ 2 ^ bi) = turn SG ii bi) := rfl
  obtain ⟨y1, hy1⟩ : ∃ y, y = s.getD wi 0 := ⟨_, rfl⟩
  rw [← hy1] at yS ty xv1 eS2
  obtain ⟨y2, hy2⟩ : ∃ y, y = SG.getD ii 0 := ⟨_, rfl⟩
  rw [← hy2] at tz2 xv2 eC2
  have HY2 := Lib.hid hy2
  obtain ⟨x1, hx1⟩ : ∃ y, y = y1 ^^^ 2 ^ bi := ⟨_, rfl⟩
  rw [← hx1] at xv1 eS2
  obtain ⟨x2, hx2⟩ : ∃ y, y = y2 ^^^ 2 ^ bi := ⟨_, rfl⟩
  rw [← hx2] at xv2 eC2
  have zS2 : (cellsA v (turn s wi bi)).size = 17 := by rw [cellsA_size, turn_len, ls]
  have IS2 := Lib.hid (i24.trans (congrArg some zS2.symm))
  have G3 := Lib.hid g3
  have HLC := Lib.hid lC
  have HLS := Lib.hid hnn
  have YS1 := Lib.hid yS
  have hnn8 : 8 ≤ nn := by omega
  have hnl : nn ≤ 320 := by omega
  have hd1 : decide ((300 : Int) < (la : Int)) = false := decide_eq_false (by omega)
  have hd2 : decide ((nn : Int) < 8) = false := decide_eq_false (by omega)
  have hbS : ∀ x, (turn SG ii bi).getD x 0 < 256 := getD_lt _ bC
  have HBS := Lib.hid hbS
  clear hr hL hna hb hu hun hul hsp hspl hs hd ls ld bs bd vs vd hS hD zS zD aS aD hkc hSG lSG bSG fSG gSG kg zk hwi hwe hbi hbe hii hie hin hsum hwo g2 g3 lC bC yS hy1 hy2 hx1 hx2 zS2 hbS hnn
  generalize cellsA v (turn s wi bi) = S2 at *
  generalize turn SG ii bi = CC at *
  generalize gd 17 CC v s v d = gq at *
  have hm4 : (wi : Int) < 16 ∧ (0 : Int) ≤ wi := by omega
  unfold maxLen at hlm
  go_enter Try.func7, Try.ntmps7
  go_wp2_with fail
  refine (CK.out _).mono ?_
  rintro e V1 ⟨rfl, hy⟩
  replace K := Lib.hid (K.out.trans (hy.mono K.out.size))
  clear hy
  go_wp2_with (((with_reducible refine wpList_blk_store (op := ⟨none, .store 43 (.tmp 15) (.tmp 28), _, _, _, _⟩) ?sg15 43 (.tmp 15) (.tmp 28) ?so15 (V1.heap.size) kc ?sx15 ?sy15 (Blk.new V1 43 #[Value.int .u8 0, .bool false, .int .u8 0, .int .u8 0, .int .u8 0, .int .u8 0, .int .u8 0, .int .u8 0, .int .u8 0, .int .u8 0, .int .u8 0, .int .u8 0, .int .u8 0, .int .u8 0, .int .u8 0, .int .u8 0, .int .u8 0, .int .u8 0, .bool false, .int .u8 0, .int .u8 0, .int .u8 0, .int .u8 0, .int .u8 0, .int .u8 0, .int .u8 0, .int .u8 0, .int .u8 0, .int .u8 0, .int .u8 0, .int .u8 0, .int .u8 0, .int .u8 0, .int .u8 0, .int .u8 0, .int .u16 0, .int .u16 0]) Yk.out Zk.out Ak.out ?_); (case sg15 => rfl); (case so15 => rfl); (case sx15 => rfl); (case sy15 => rfl)))
  intro V2 hA hF hB
  have hy := ((Below.refl V1.heap.size V1).alloc (Nat.le_refl _) (.cells #[Value.int .u8 0, .bool false, .int .u8 0, .int .u8 0, .int .u8 0, .int .u8 0, .int .u8 0, .int .u8 0, .int .u8 0, .int .u8 0, .int .u8 0, .int .u8 0, .int .u8 0, .int .u8 0, .int .u8 0, .int .u8 0, .int .u8 0, .int .u8 0, .bool false, .int .u8 0, .int .u8 0, .int .u8 0, .int .u8 0, .int .u8 0, .int .u8 0, .int .u8 0, .int .u8 0, .int .u8 0, .int .u8 0, .int .u8 0, .int .u8 0, .int .u8 0, .int .u8 0, .int .u8 0, .int .u8 0, .int .u16 0, .int .u16 0] 43)).trans (hB _ (Nat.le_refl _))
  replace K := Lib.hid (K.out.trans (hy.mono K.out.size))
  have NK := Lib.hid hA
  clear hA hF hB hy
  have L16 : (loadVar 43 ⟨V1.heap.size, 0, none⟩).run Try.prog V2 = .ok (.agg kc) V2 := run_blk_load (P := Try.prog) 43 (V1.heap.size) _ NK.out Try.underlying43 rfl Zk.out
  replace L16 := Lib.hid L16
  go_wp2_with (((with_reducible refine wpList_load_want (op := ⟨some 29, .load 43 (.tmp 15), _, _, _, _⟩) ?wg16 43 (.tmp 15) ?wo16 ⟨V1.heap.size, 0, none⟩ ?wx16 (.agg kc) L16.out ?_); (case wg16 => rfl); (case wo16 => rfl); (case wx16 => rfl)))
  clear L16
  refine (CO.out _ (HR.out.below K.out)).mono ?_
  rintro e V3 ⟨gb, ob, cb, rfl, rb, hy⟩
  replace K := Lib.hid (K.out.trans (hy.mono K.out.size))
  replace NK := Lib.hid (NK.out.below hy NK.out.lt)
  have R := Lib.hid (rb)
  clear rb
  clear hy
  have L17 := (NK.out.cell 0).trans kg0.out
  have L18 : (loadVar 26 ⟨V1.heap.size, 1, none⟩).run Try.prog V3 = .ok (.agg S) V3 := by have h := run_part_load (P := Try.prog) 26 1 S.toList _ NK.out kp1.out Try.underlying26 rfl IS.out; rwa [Array.toArray_toList] at h
  replace L18 := Lib.hid L18
  have L19 : (loadVar 26 ⟨V1.heap.size, 18, none⟩).run Try.prog V3 = .ok (.agg D) V3 := by have h := run_part_load (P := Try.prog) 26 18 D.toList _ NK.out kp2.out Try.underlying26 rfl ID.out; rwa [Array.toArray_toList] at h
  replace L19 := Lib.hid L19
  go_wp2_with (first | ((with_reducible refine wpList_load_want (op := ⟨some 40, .load 26 (.tmp 39), _, _, _, _⟩) ?wg18 26 (.tmp 39) ?wo18 ⟨V1.heap.size, 1, none⟩ ?wx18 (.agg S) L18.out ?_); (case wg18 => rfl); (case wo18 => rfl); (case wx18 => rfl)) | ((with_reducible refine wpList_load_want (op := ⟨some 42, .load 26 (.tmp 41), _, _, _, _⟩) ?wg19 26 (.tmp 41) ?wo19 ⟨V1.heap.size, 18, none⟩ ?wx19 (.agg D) L19.out ?_); (case wg19 => rfl); (case wo19 => rfl); (case wx19 => rfl)))
  clear L17 L18 L19
  refine (CG1.out _ _ R.out).mono ?_
  rintro e V4 ⟨rfl, hy⟩
  replace K := Lib.hid (K.out.trans (hy.mono K.out.size))
  replace NK := Lib.hid (NK.out.below hy NK.out.lt)
  replace R := Lib.hid (R.out.below hy)
  clear hy
  have qRX := rd_lt R.out (by omega)
  have qNKX := NK.out.lt
  have hKX := K.out.size
  have L20 : (loadVar 26 ⟨V1.heap.size, 1, none⟩).run Try.prog V4 = .ok (.agg S) V4 := by have h := run_part_load (P := Try.prog) 26 1 S.toList _ NK.out kp1.out Try.underlying26 rfl IS.out; rwa [Array.toArray_toList] at h
  replace L20 := Lib.hid L20
  go_wp2_with (first | ((with_reducible refine wpList_load_want (op := ⟨some 47, .load 26 (.tmp 46), _, _, _, _⟩) ?wg20 26 (.tmp 46) ?wo20 ⟨V1.heap.size, 1, none⟩ ?wx20 (.agg S) L20.out ?_); (case wg20 => rfl); (case wo20 => rfl); (case wx20 => rfl)) | ((with_reducible refine wpList_blk_store (op := ⟨none, .store 26 (.tmp 17) (.tmp 47), _, _, _, _⟩) ?sg21 26 (.tmp 17) (.tmp 47) ?so21 (V4.heap.size) S ?sx21 ?sy21 (Blk.new V4 26 #[Value.bool false, .int .u8 0, .int .u8 0, .int .u8 0, .int .u8 0, .int .u8 0, .int .u8 0, .int .u8 0, .int .u8 0, .int .u8 0, .int .u8 0, .int .u8 0, .int .u8 0, .int .u8 0, .int .u8 0, .int .u8 0, .int .u8 0]) YS.out ZSs.out AS.out ?_); (case sg21 => rfl); (case so21 => rfl); (case sx21 => rfl); (case sy21 => rfl)))
  clear L20
  have qNKNX : V1.heap.size < V4.heap.size := NK.out.lt
  intro V5 hA hF hB
  have hy := ((Below.refl V4.heap.size V4).alloc (Nat.le_refl _) (.cells #[Value.bool false, .int .u8 0, .int .u8 0, .int .u8 0, .int .u8 0, .int .u8 0, .int .u8 0, .int .u8 0, .int .u8 0, .int .u8 0, .int .u8 0, .int .u8 0, .int .u8 0, .int .u8 0, .int .u8 0, .int .u8 0, .int .u8 0] 26)).trans (hB _ (Nat.le_refl _))
  replace K := Lib.hid (K.out.trans (hy.mono K.out.size))
  replace NK := Lib.hid (NK.out.below hy NK.out.lt)
  replace R := Lib.hid (R.out.below hy)
  have NX := Lib.hid hA
  clear hA hF hB hy
  go_wp2_with fail
  go_wp2_with fail
  have m0 : w.heap.size ≤ V4.heap.size := hKX
  have m1 : V4.heap.size < V5.heap.size := NX.out.lt
  go_wp2_with fail
  refine wp_region_still_tail 11 (by kernel_rfl) (by kernel_rfl) ?_
  change wpStill _ _ V5.drew (fun a' => wpList _ _ _ _ a' V5.drew) _ _
  have hy := (Below.refl V5.heap.size V5).drew
  replace K := Lib.hid (K.out.trans (hy.mono K.out.size))
  replace NK := Lib.hid (NK.out.below hy NK.out.lt)
  replace R := Lib.hid (R.out.below hy)
  replace NX := Lib.hid (NX.out.below hy NX.out.lt)
  clear hy
  generalize V5.drew = V6 at *
  have c1 := (NX.out.cell (1 + wi)).trans YS1.out
  have f1 := NX.out.frozen (1 + wi)
  simp only [List.take_succ_cons, List.take_zero, List.drop_succ_cons, List.drop_zero]
  still_step
  still_call ((CR1.out _).mono fun e w' h => ⟨h.1, h.2.symm⟩)
  still_step
  still_step
  still_step
  still_step
  still_call ((CR2.out _).mono fun e w' h => ⟨h.1, h.2.symm⟩)
  still_step
  still_step
  still_step
  still_step
  refine wpStill_nil ?_
  try simp only [Act.put, List.setIfInBounds_toArray, List.set_cons_zero, List.set_cons_succ]
  go_upto_region 9 with fail
  rw [xv1.out]
  have nx := NX.out.set_ (1 + wi) (.int .u8 (x1 : Int))
  rw [eS2.out] at nx
  have hB := (Below.refl V4.heap.size V6).setCell (Nat.le_refl _) (p := ⟨V4.heap.size, 1 + wi, none⟩) (.int .u8 (x1 : Int))
  replace K := Lib.hid (K.out.trans (hB.mono m0))
  replace NK := Lib.hid (NK.out.below hB qNKX)
  replace R := Lib.hid (rd_keep R.out hB qRX)
  replace NX := Lib.hid nx
  clear c1 f1 nx eS2 xv1 YS1
  generalize V6.setCell ⟨V4.heap.size, 1 + wi, none⟩ (.int .u8 (x1 : Int)) = V7 at K NK R NX hB ⊢
  have m2 : V4.heap.size < V7.heap.size := NX.out.lt
  have m3 := NK.out.lt
  have m4 := rd_lt R.out (by omega)
  have hKv := K.out.size
  clear hB
  have L := Lib.hid (Below.refl V7.heap.size V7)
  have hal := (Below.refl V7.heap.size V7).alloc (Nat.le_refl _) (.cells #[] 5)
  have O := Lib.hid (own_low (b1 := V7.heap.size) L.out.size (own_none V7 5))
  replace L := Lib.hid (L.out.trans (hal.mono L.out.size))
  clear hal
  go_wp2_with ((at_builtin; refine wpList_app rfl (.tmp 59) (.tmp 60) rfl V7.heap.size _ (0) [] rfl O.out (some ⟨gb, ob, none⟩) (nn) (cb) SG rfl (R.out.below L.out) (by intro e; cases e) ?ap22b ?ap22c ?ap22d))
  case ap22b => omega
  case ap22c => first | exact L.out.size | (have q := L.out.size; simp only [World.size_alloc] at q; exact q)
  intro vx V8 oz gz
  replace L := Lib.hid (L.out.grown gz L.out.size (fun k e => by first | exact (O.out.lt k e).1 | (cases e; first | exact Nat.le_refl _ | omega)))
  have oz : V8.ownsRow V7.heap.size 5 1 vx (nn) (nus .u8 (SG)) := by first | exact oz | simpa using oz
  replace O := Lib.hid oz
  obtain ⟨gc, cc, rfl, hcc, hccm, hgc, hgcu⟩ := own_at O.out (by omega)
  clear oz gz
  have hy := L.out
  replace K := Lib.hid (K.out.trans (hy.mono K.out.size))
  replace NK := Lib.hid (NK.out.below hy NK.out.lt)
  replace R := Lib.hid (R.out.below hy)
  replace NX := Lib.hid (NX.out.below hy NX.out.lt)
  clear hy L
  go_wp2_with fail
  refine (CR3.out _).mono ?_
  rintro e V9 ⟨rfl, rfl⟩
  go_wp2_with fail
  go_wp2_with fail
  refine wp_region_still_tail 9 (by kernel_rfl) (by kernel_rfl) ?_
  change wpStill _ _ V8.drew (fun a' => wpList _ _ _ _ a' V8.drew) _ _
  have hy := (Below.refl V8.heap.size V8).drew
  replace K := Lib.hid (K.out.trans (hy.mono K.out.size))
  replace NK := Lib.hid (NK.out.below hy NK.out.lt)
  replace R := Lib.hid (R.out.below hy)
  replace NX := Lib.hid (NX.out.below hy NX.out.lt)
  replace O := Lib.hid (row_under O.out hy)
  clear hy
  generalize V8.drew = V10 at *
  have c2 := O.out.cellAt ii (by omega)
  rw [nus_get _ _ _ (by rw [← HLS.out]; exact hil), ← HY2.out] at c2
  have f2 := O.out.frozenAt ii
  have b2 : (0 : Int) ≤ (ii : Int) ∧ (ii : Int) < (nn : Int) := by omega
  simp only [List.take_succ_cons, List.take_zero, List.drop_succ_cons, List.drop_zero]
  still_step
  still_step
  still_step
  still_step
  still_step
  still_call ((CR2.out _).mono fun e w' h => ⟨h.1, h.2.symm⟩)
  still_step
  still_step
  still_step
  refine wpStill_nil ?_
  try simp only [Act.put, List.setIfInBounds_toArray, List.set_cons_zero, List.set_cons_succ]
  go_upto_region 12 with fail
  rw [xv2.out]
  have hst := O.out.stored ii (.int .u8 (x2 : Int))
  rw [nus_set, eC2.out] at hst
  have gr : V10.grownBy (V10.setCell ⟨gc, ii, none⟩ (.int .u8 (x2 : Int))) (some gc) := hst.2
  have sz9 : V7.heap.size ≤ V10.heap.size := by have q1 := own_in O.out; omega
  have hB := (Below.refl V7.heap.size V10).grown gr sz9 (fun k e => by cases e; exact hgc)
  replace O := Lib.hid hst.1
  replace K := Lib.hid (K.out.trans (hB.mono hKv))
  replace NK := Lib.hid (NK.out.below hB m3)
  replace NX := Lib.hid (NX.out.below hB m2)
  replace R := Lib.hid (rd_keep R.out hB m4)
  clear c2 f2 b2 hst gr xv2 eC2 HY2
  generalize V10.setCell ⟨gc, ii, none⟩ (.int .u8 (x2 : Int)) = V11 at K NK R NX O hB ⊢
  clear hB
  have c6 := O.out.cellAt 6 (by omega)
  have c7 := O.out.cellAt 7 (by omega)
  rw [nus_get _ _ _ (by rw [HLC.out]; omega)] at c6 c7
  have l6 : (6 : Int) < (nn : Int) := by omega
  have l7 : (7 : Int) < (nn : Int) := by omega
  have t6 := HBS.out 6
  have t7 := HBS.out 7
  have G4 := G3.out
  generalize CC.getD 6 0 = y6 at *
  generalize CC.getD 7 0 = y7 at *
  clear G3
  by_cases h67 : y6 = 0 ∧ y7 = 0
  · obtain ⟨rfl, rfl⟩ := h67
    clear G4
    have OR := Lib.hid (Rd.own O.out)
    have L23 := (NK.out.cell 0).trans kg0.out
    have L24 : (loadVar 26 ⟨V4.heap.size, 0, none⟩).run Try.prog V11 = .ok (.agg S2) V11 := run_blk_load (P := Try.prog) 26 (V4.heap.size) _ NX.out Try.underlying26 rfl IS2.out
    replace L24 := Lib.hid L24
    have L25 : (loadVar 26 ⟨V1.heap.size, 18, none⟩).run Try.prog V11 = .ok (.agg D) V11 := by have h := run_part_load (P := Try.prog) 26 18 D.toList _ NK.out kp2.out Try.underlying26 rfl ID.out; rwa [Array.toArray_toList] at h
    replace L25 := Lib.hid L25
    go_wp2_with (first | ((with_reducible refine wpList_load_want (op := ⟨some 91, .load 26 (.tmp 17), _, _, _, _⟩) ?wg24 26 (.tmp 17) ?wo24 ⟨V4.heap.size, 0, none⟩ ?wx24 (.agg S2) L24.out ?_); (case wg24 => rfl); (case wo24 => rfl); (case wx24 => rfl)) | ((with_reducible refine wpList_load_want (op := ⟨some 93, .load 26 (.tmp 92), _, _, _, _⟩) ?wg25 26 (.tmp 92) ?wo25 ⟨V1.heap.size, 18, none⟩ ?wx25 (.agg D) L25.out ?_); (case wg25 => rfl); (case wo25 => rfl); (case wx25 => rfl)))
    clear L23 L24 L25
    refine (CG2.out _ _ R.out).mono ?_
    rintro e V12 ⟨rfl, hy⟩
    replace K := Lib.hid (K.out.trans (hy.mono K.out.size))
    replace NK := Lib.hid (NK.out.below hy NK.out.lt)
    replace R := Lib.hid (R.out.below hy)
    replace NX := Lib.hid (NX.out.below hy NX.out.lt)
    replace OR := Lib.hid (OR.out.below hy)
    clear hy
    go_wp2_with fail
    refine (awake_any _).mono ?_
    rintro e V13 ⟨rfl, hy⟩
    replace K := Lib.hid (K.out.trans (hy.mono K.out.size))
    replace NK := Lib.hid (NK.out.below hy NK.out.lt)
    replace R := Lib.hid (R.out.below hy)
    replace NX := Lib.hid (NX.out.below hy NX.out.lt)
    replace OR := Lib.hid (OR.out.below hy)
    clear hy
    go_wp2
    go_ret
    exact ⟨rfl, K.out⟩
  obtain rfl : gq = false := by
    rcases G4 with h | h
    · exact absurd h.2 h67
    · exact h
  clear G4
  by_cases h6 : y6 = 0
  · subst h6
    have g7 : ((y7 : Int) == 0) = false := by rw [beq_eq_false_iff_ne]; omega
    clear h67
    have OR := Lib.hid (Rd.own O.out)
    have L26 := (NK.out.cell 0).trans kg0.out
    have L27 : (loadVar 26 ⟨V4.heap.size, 0, none⟩).run Try.prog V11 = .ok (.agg S2) V11 := run_blk_load (P := Try.prog) 26 (V4.heap.size) _ NX.out Try.underlying26 rfl IS2.out
    replace L27 := Lib.hid L27
    have L28 : (loadVar 26 ⟨V1.heap.size, 18, none⟩).run Try.prog V11 = .ok (.agg D) V11 := by have h := run_part_load (P := Try.prog) 26 18 D.toList _ NK.out kp2.out Try.underlying26 rfl ID.out; rwa [Array.toArray_toList] at h
    replace L28 := Lib.hid L28
    go_wp2_with (first | ((with_reducible refine wpList_load_want (op := ⟨some 91, .load 26 (.tmp 17), _, _, _, _⟩) ?wg27 26 (.tmp 17) ?wo27 ⟨V4.heap.size, 0, none⟩ ?wx27 (.agg S2) L27.out ?_); (case wg27 => rfl); (case wo27 => rfl); (case wx27 => rfl)) | ((with_reducible refine wpList_load_want (op := ⟨some 93, .load 26 (.tmp 92), _, _, _, _⟩) ?wg28 26 (.tmp 92) ?wo28 ⟨V1.heap.size, 18, none⟩ ?wx28 (.agg D) L28.out ?_); (case wg28 => rfl); (case wo28 => rfl); (case wx28 => rfl)))
    clear L26 L27 L28
    refine (CG2.out _ _ R.out).mono ?_
    rintro e V12 ⟨rfl, hy⟩
    replace K := Lib.hid (K.out.trans (hy.mono K.out.size))
    replace NK := Lib.hid (NK.out.below hy NK.out.lt)
    replace R := Lib.hid (R.out.below hy)
    replace NX := Lib.hid (NX.out.below hy NX.out.lt)
    replace OR := Lib.hid (OR.out.below hy)
    clear hy
    have L29 := (NK.out.cell 0).trans kg0.out
    have L30 : (loadVar 26 ⟨V1.heap.size, 1, none⟩).run Try.prog V12 = .ok (.agg S) V12 := by have h := run_part_load (P := Try.prog) 26 1 S.toList _ NK.out kp1.out Try.underlying26 rfl IS.out; rwa [Array.toArray_toList] at h
    replace L30 := Lib.hid L30
    have L31 : (loadVar 26 ⟨V1.heap.size, 18, none⟩).run Try.prog V12 = .ok (.agg D) V12 := by have h := run_part_load (P := Try.prog) 26 18 D.toList _ NK.out kp2.out Try.underlying26 rfl ID.out; rwa [Array.toArray_toList] at h
    replace L31 := Lib.hid L31
    go_wp2_with (first | ((with_reducible refine wpList_load_want (op := ⟨some 103, .load 26 (.tmp 102), _, _, _, _⟩) ?wg30 26 (.tmp 102) ?wo30 ⟨V1.heap.size, 1, none⟩ ?wx30 (.agg S) L30.out ?_); (case wg30 => rfl); (case wo30 => rfl); (case wx30 => rfl)) | ((with_reducible refine wpList_load_want (op := ⟨some 105, .load 26 (.tmp 104), _, _, _, _⟩) ?wg31 26 (.tmp 104) ?wo31 ⟨V1.heap.size, 18, none⟩ ?wx31 (.agg D) L31.out ?_); (case wg31 => rfl); (case wo31 => rfl); (case wx31 => rfl)))
    clear L29 L30 L31
    refine (CG3.out _ _ OR.out).mono ?_
    rintro e V13 ⟨rfl, hy⟩
    replace K := Lib.hid (K.out.trans (hy.mono K.out.size))
    replace NK := Lib.hid (NK.out.below hy NK.out.lt)
    replace R := Lib.hid (R.out.below hy)
    replace NX := Lib.hid (NX.out.below hy NX.out.lt)
    replace OR := Lib.hid (OR.out.below hy)
    clear hy
    go_wp2_with fail
    refine (awake_any _).mono ?_
    rintro e V14 ⟨rfl, hy⟩
    replace K := Lib.hid (K.out.trans (hy.mono K.out.size))
    replace NK := Lib.hid (NK.out.below hy NK.out.lt)
    replace R := Lib.hid (R.out.below hy)
    replace NX := Lib.hid (NX.out.below hy NX.out.lt)
    replace OR := Lib.hid (OR.out.below hy)
    clear hy
    go_wp2
    go_ret
    exact ⟨rfl, K.out⟩
  have g6 : ((y6 : Int) == 0) = false := by rw [beq_eq_false_iff_ne]; omega
  clear h67 h6
  have OR := Lib.hid (Rd.own O.out)
  have L32 := (NK.out.cell 0).trans kg0.out
  have L33 : (loadVar 26 ⟨V4.heap.size, 0, none⟩).run Try.prog V11 = .ok (.agg S2) V11 := run_blk_load (P := Try.prog) 26 (V4.heap.size) _ NX.out Try.underlying26 rfl IS2.out
  replace L33 := Lib.hid L33
  have L34 : (loadVar 26 ⟨V1.heap.size, 18, none⟩).run Try.prog V11 = .ok (.agg D) V11 := by have h := run_part_load (P := Try.prog) 26 18 D.toList _ NK.out kp2.out Try.underlying26 rfl ID.out; rwa [Array.toArray_toList] at h
  replace L34 := Lib.hid L34
  go_wp2_with (first | ((with_reducible refine wpList_load_want (op := ⟨some 91, .load 26 (.tmp 17), _, _, _, _⟩) ?wg33 26 (.tmp 17) ?wo33 ⟨V4.heap.size, 0, none⟩ ?wx33 (.agg S2) L33.out ?_); (case wg33 => rfl); (case wo33 => rfl); (case wx33 => rfl)) | ((with_reducible refine wpList_load_want (op := ⟨some 93, .load 26 (.tmp 92), _, _, _, _⟩) ?wg34 26 (.tmp 92) ?wo34 ⟨V1.heap.size, 18, none⟩ ?wx34 (.agg D) L34.out ?_); (case wg34 => rfl); (case wo34 => rfl); (case wx34 => rfl)))
  clear L32 L33 L34
  refine (CG2.out _ _ R.out).mono ?_
  rintro e V12 ⟨rfl, hy⟩
  replace K := Lib.hid (K.out.trans (hy.mono K.out.size))
  replace NK := Lib.hid (NK.out.below hy NK.out.lt)
  replace R := Lib.hid (R.out.below hy)
  replace NX := Lib.hid (NX.out.below hy NX.out.lt)
  replace OR := Lib.hid (OR.out.below hy)
  clear hy
  have L35 := (NK.out.cell 0).trans kg0.out
  have L36 : (loadVar 26 ⟨V1.heap.size, 1, none⟩).run Try.prog V12 = .ok (.agg S) V12 := by have h := run_part_load (P := Try.prog) 26 1 S.toList _ NK.out kp1.out Try.underlying26 rfl IS.out; rwa [Array.toArray_toList] at h
  replace L36 := Lib.hid L36
  have L37 : (loadVar 26 ⟨V1.heap.size, 18, none⟩).run Try.prog V12 = .ok (.agg D) V12 := by have h := run_part_load (P := Try.prog) 26 18 D.toList _ NK.out kp2.out Try.underlying26 rfl ID.out; rwa [Array.toArray_toList] at h
  replace L37 := Lib.hid L37
  go_wp2_with (first | ((with_reducible refine wpList_load_want (op := ⟨some 103, .load 26 (.tmp 102), _, _, _, _⟩) ?wg36 26 (.tmp 102) ?wo36 ⟨V1.heap.size, 1, none⟩ ?wx36 (.agg S) L36.out ?_); (case wg36 => rfl); (case wo36 => rfl); (case wx36 => rfl)) | ((with_reducible refine wpList_load_want (op := ⟨some 105, .load 26 (.tmp 104), _, _, _, _⟩) ?wg37 26 (.tmp 104) ?wo37 ⟨V1.heap.size, 18, none⟩ ?wx37 (.agg D) L37.out ?_); (case wg37 => rfl); (case wo37 => rfl); (case wx37 => rfl)))
  clear L35 L36 L37
  refine (CG3.out _ _ OR.out).mono ?_
  rintro e V13 ⟨rfl, hy⟩
  replace K := Lib.hid (K.out.trans (hy.mono K.out.size))
  replace NK := Lib.hid (NK.out.below hy NK.out.lt)
  replace R := Lib.hid (R.out.below hy)
  replace NX := Lib.hid (NX.out.below hy NX.out.lt)
  replace OR := Lib.hid (OR.out.below hy)
  clear hy
  go_wp2_with fail
  refine (awake_any _).mono ?_
  rintro e V14 ⟨rfl, hy⟩
  replace K := Lib.hid (K.out.trans (hy.mono K.out.size))
  replace NK := Lib.hid (NK.out.below hy NK.out.lt)
  replace R := Lib.hid (R.out.below hy)
  replace NX := Lib.hid (NX.out.below hy NX.out.lt)
  replace OR := Lib.hid (OR.out.below hy)
  clear hy
  go_wp2
  go_ret
  exact ⟨rfl, K.out⟩

theorem sums_walk (n : Int) (v udp : Bool) (a : Option Addr) (la ca : Nat) (zs : List Nat) (at0 bit who : Int) (w : World) (hr : Rd w (.slice a la ca) (nus .u8 zs)) (hL : zs.length = la) (hna : a = none → ca = 0) (hb : ∀ c ∈ zs, c < 256) :
    Calls Try.prog 7 #[.int .i64 n, .bool v, .bool udp, .slice a la ca, .int .i64 at0, .int .i64 bit, .int .i64 who] w fun e w' => e = .returned (.bool true) ∧ Below w.heap.size w w' := by
  cases udp
  · exact sums_t n v a la ca zs at0 bit who w hr hL hna hb
  · exact sums_u n v a la ca zs at0 bit who w hr hL hna hb
end Go.Proofs.Ytbhiknojjmdbiaa

