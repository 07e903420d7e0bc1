/- Texts that the walks of this seat lean on, put together. -/
import Derived.Test.YtnpibdjfafpegaaTk
import Derived.Test.YtnpibdjfafpegaaM07
import Derived.Test.YtnpibdjfafpegaaM10
import Derived.Test.YtnpibdjfafpegaaM13
import Derived.Test.YtnpibdjfafpegaaM16
import Derived.Test.YtnpibdjfafpegaaM20
import Derived.Test.YtnpibdjfafpegaaM23
import Derived.Test.YtnpibdjfafpegaaM38
import Derived.Test.YtnpibdjfafpegaaM45
namespace Go.Proofs.Ytnpibdjfafpegaa
open Go.RowKit
theorem six_made (m : Nat) (hm : m ≤ 65535) (w : World) : Calls Try.prog 17 #[adr true (sV 3), adr true dV, .int .u8 17, .int .i64 (m : Int)] w fun e w' => ∃ x, e = .returned (.tuple #[x, .bool true]) ∧ Rd w' x (nus .u8 (headB true (sV 3) dV 17 m)) ∧ Below w.heap.size w w' := by
  have h := rmake_any true true (sV 3) dV 17 (m : Int) w (sV_len 3) dV_len
  have hk : mkOk true true (m : Int) = true := by
    unfold mkOk
    rw [decide_eq_true (by omega : (0 : Int) ≤ (m : Int)), decide_eq_true (by omega : (m : Int) ≤ 65535)]; rfl
  have ho : mOut true true (sV 3) dV 17 (m : Int) = headB true (sV 3) dV 17 m := by
    unfold mOut
    rw [hk, if_pos rfl, Int.toNat_natCast]; rfl
  rw [hk, ho] at h
  exact h
theorem four_made (m : Nat) (hm : m ≤ 65515) (w : World) : Calls Try.prog 18 #[adr false (sV 3), adr false dV, .int .u8 17, .int .i64 (m : Int)] w fun e w' => ∃ x, e = .returned (.tuple #[x, .bool true]) ∧ Rd w' x (nus .u8 (headB false (sV 3) dV 17 m)) ∧ Below w.heap.size w w' :=
  (r4make_yes (sV 3) dV 17 m w (sV_len 3) dV_len (sV_lt 3) dV_lt (by omega) hm).mono fun _ _ ⟨x, h1, h2, h3⟩ => ⟨x, h1, Rd.own h2, h3⟩
set_option maxRecDepth 100000 in
set_option maxHeartbeats 8000000 in
theorem big_66 (pad : Int) (w : World) : Calls Try.prog 5 #[.bool true, .bool true, .int .i64 pad] w fun e w' => e = .returned (.bool true) ∧ Below w.heap.size w w' := by
  have K := Lib.hid (Below.refl w.heap.size w)
  have HA := Lib.hid (fun W => awake_any W)
  obtain ⟨r, hr⟩ : ∃ x : Nat, x = (pad % 5).toNat := ⟨_, rfl⟩
  have hre : pad % 5 = (r : Int) := by omega
  have hrl : r < 5 := by omega
  have CR := Lib.hid (fun W => round_any pad 5 W (by omega) (by omega))
  rw [hre] at CR
  obtain ⟨n, hn⟩ : ∃ x : Nat, x = 65493 + r := ⟨_, rfl⟩
  obtain ⟨m, hm⟩ : ∃ x : Nat, x = n - 54 := ⟨_, rfl⟩
  have hnm : n = 14 + hH true + m := by have : hH true = 40 := rfl; omega
  have CK := Lib.hid (fun W => flow_any 3 true true W)
  rw [show ((3 : Int) % 1073741824).toNat = 3 from by decide] at CK
  have CM := Lib.hid (fun W => six_made m (by omega) W)
  have hB := big true m (by omega) (by omega)
  have hBs := big_s true true m (by omega) (by omega)
  have hBl := big_lt true m
  have hBn := big_len true m (by omega)
  have hmade := fun R hR => big_made true m n (by omega) hnm R hR
  have s1 : (cellsA true (D16 1)).size = 17 := by rw [cellsA_size, D16_len]
  have F1 := Lib.hid (fun W => dip_addr (cellsA true (D16 1)) 8001 s1 W)
  have CD := Lib.hid (fun W => dip16 1 true W)
  rw [show ((1 : Int) % 200).toNat = 1 from by decide, show (8000 + ((1 : Int) % 1000).toNat) = 8001 from by decide] at CD
  have CO4 := Lib.hid (fun W => own_any false W)
  have CO6 := Lib.hid (fun W => own_any true W)
  have b1 := D16_lt 1 (by decide)
  have b5 := D16_lt 150 (by decide)
  have hin : inS (bigF true m) true = n + 40 := by rw [hBs, hnm]; rfl
  have hHl : (headB true (sV 3) dV 17 m).length = 40 := headB_len true (sV 3) dV 17 m (sV_len 3) dV_len
  have C1 := Lib.hid (fun (hs : n + 40 ≤ 65535) W z (h : Rd W z (nus .u8 (bigF true m))) => in_own z (bigF true m) (D16 1) true W h hBl (by omega) hB.rr (D16_len _) b1 (D16_v _ _) (by rw [hin]; exact hs))
  have C2 := Lib.hid (fun (hs : 65535 < n + 40) W z (h : Rd W z (nus .u8 (bigF true m))) => in_own_big z (bigF true m) (D16 1) true W h hBl (by omega) hB.rr (D16_len _) b1 (D16_v _ _) (by rw [hin]; exact hs))
  have hFl : n + 40 ≤ 65535 → (inn (bigF true m) true (D16 150) (D16 1)).length = n + 40 := fun hs => by
    rw [(was (bigF true m) true (D16 150) (D16 1) hBl hB.rr (D16_len _) (D16_len _) (D16_v _ _) (D16_v _ _) (by rw [hin]; exact hs)).len, hin]
  have HFL := Lib.hid hFl
  have zk := flow_size 3 true true
  have Ak := Lib.hid (flow_all 3 true true)
  have kp1 := Lib.hid (show ((flow 3 true true).toList.drop 1).take (cellsA true (sV 3)).toList.length = (cellsA true (sV 3)).toList from kcells_src _ _ _ _ _)
  have kp2 := Lib.hid (show ((flow 3 true true).toList.drop 18).take (cellsA true dV).toList.length = (cellsA true dV).toList from kcells_dst _ _ _ _ _ (by rw [cellsA_size, sV_len]))
  have kg0 := Lib.hid (show (flow 3 true true)[0]? = some (.int .u8 17) from rfl)
  have IS := Lib.hid (i24.trans (congrArg some (show (17 : Nat) = (cellsA true (sV 3)).toList.length from by rw [Array.length_toList, cellsA_size, sV_len])))
  have ID := Lib.hid (i24.trans (congrArg some (show (17 : Nat) = (cellsA true dV).toList.length from by rw [Array.length_toList, cellsA_size, dV_len])))
  have Yk : Hid ((flow 3 true true).size = Array.size (ZcK : Array Value)) := zk
  have Zk := Lib.hid (i42.trans (congrArg some zk.symm))
  have HM := Lib.hid hmade
  have HHL := Lib.hid hHl
  clear hB hBs hBl hBn hmade s1 b1 b5 hin hFl hr hre zk hHl hnm
  unfold adr at CM CO4 CO6 C1 C2
  generalize bigF true m = BF at *
  generalize inn BF true (D16 150) (D16 1) = FF at *
  generalize cellsA true (D16 1) = A1 at *
  generalize cellsA false (D16 150) = A4 at *
  generalize cellsA true (D16 150) = A6 at *
  generalize cellsA true (sV 3) = SA at *
  generalize cellsA true dV = DA at *
  generalize flow 3 true true = kc at *
  generalize dcells A1 8001 = dc at *
  generalize headB true (sV 3) dV 17 m = H at *
  have wn : (65495 : Int) + (r : Int) - 2 = (n : Int) := by omega
  have wm : (n : Int) - 14 - 40 = (m : Int) := by omega
  have hn5 : 60000 ≤ n ∧ n ≤ 65600 := by omega
  obtain ⟨hn5, hn6⟩ := hn5
  clear hn hm
  go_enter Try.func5, Try.ntmps5
  go_wp2_with fail
  refine (CR.out _).mono ?_
  rintro e V1 ⟨rfl, rfl⟩
  go_wp2_with fail
  refine (CK.out w).mono ?_
  rintro e V2 ⟨rfl, hy⟩
  replace K := Lib.hid (K.out.trans (hy.mono K.out.size))
  clear hy
  go_wp2_with (((with_reducible refine wpList_blk_store (op := ⟨none, .store 30 (.tmp 9) (.tmp 27), _, _, _, _⟩) ?sg1 30 (.tmp 9) (.tmp 27) ?so1 (V2.heap.size) kc ?sx1 ?sy1 (Blk.new V2 30 ZcK) Yk.out Zk.out Ak.out ?_); (case sg1 => rfl); (case so1 => rfl); (case sx1 => rfl); (case sy1 => rfl)))
  intro V3 hA hF hB
  have hy := ((Below.refl V2.heap.size V2).alloc (Nat.le_refl _) (.cells ZcK 30)).trans (hB _ (Nat.le_refl _))
  replace K := Lib.hid (K.out.trans (hy.mono K.out.size))
  have NK := Lib.hid hA
  clear hA hF hB hy
  have qNK := NK.out.lt
  obtain ⟨g, hg⟩ : ∃ g, g = V3.heap.size := ⟨_, rfl⟩
  have hgl : w.heap.size ≤ g := by rw [hg]; exact K.out.size
  rw [← hg] at qNK
  obtain ⟨i0, hi, hz0, hz1, hz2⟩ := info_parts Try.info5
  have hbase : w.heap.size ≤ V3.heap.size := K.out.size
  go_wp2_with ((at_make; refine wpList_make_full _ rfl _ _ 22 rfl w.heap.size 5 i0 (.int .u8 0) 1 Try.underlying22 hi hz0 hz1 .i64 .i64 _ _ n rfl rfl ?mk2a ?mk2b ?mk2c ?mk2d hbase ?_))
  case mk2a => omega
  case mk2b => omega
  case mk2c => rw [hz2]; omega
  case mk2d => unfold maxLen; omega
  intro V4 o1 g1
  rw [toList_madeCells_one, show List.replicate n (Value.int .u8 0) = nus .u8 (List.replicate n 0) from by simp [nus]] at o1
  replace K := Lib.hid (K.out.grown g1 K.out.size (fun k e => by first | (cases e; done) | (cases e; first | exact Nat.le_refl _ | omega)))
  replace NK := Lib.hid (show Blk _ _ _ _ from (g1.block _ NK.out.lt (by first | (simp; done) | (simp; omega))).trans NK.out)
  have O := Lib.hid (show V4.ownsRow w.heap.size 5 1 _ n (nus .u8 (List.replicate n 0)) from o1)
  clear o1 g1 hi hz0 hz1 hz2 hbase
  rw [← hg] at O ⊢
  clear hg
  have hnm2 : n ≤ maxLen := by simp [maxLen]; omega
  have L0 : Hid ((List.replicate n 0).length = n) := by show _ = _; simp
  have c12x := O.out.cellAt 12 (by omega)
  rw [nus_get _ _ _ (by have q := L0.out; omega)] at c12x
  have f12x := O.out.frozenAt 12
  generalize List.getD (List.replicate n 0) 12 0 = y12x at c12x
  have c13x := O.out.cellAt 13 (by omega)
  rw [nus_get _ _ _ (by have q := L0.out; omega)] at c13x
  have f13x := O.out.frozenAt 13
  generalize List.getD (List.replicate n 0) 13 0 = y13x at c13x
  have hst0 := O.out.stored 12 (.int .u8 ((8 : Nat) : Int))
  rw [nus_set] at hst0
  have hst0 : (V4.setCell ⟨g, 12, none⟩ (.int .u8 8)).ownsRow w.heap.size 5 1 (.slice (some ⟨g, 0, none⟩) n n) n (nus .u8 (((List.replicate n 0)).set 12 8)) ∧ V4.grownBy (V4.setCell ⟨g, 12, none⟩ (.int .u8 8)) (some g) := hst0
  have HST0 := Lib.hid hst0
  clear hst0
  have hst1 := HST0.out.1.stored 13 (.int .u8 ((0 : Nat) : Int))
  rw [nus_set] at hst1
  have hst1 : ((V4.setCell ⟨g, 12, none⟩ (.int .u8 8)).setCell ⟨g, 13, none⟩ (.int .u8 0)).ownsRow w.heap.size 5 1 (.slice (some ⟨g, 0, none⟩) n n) n (nus .u8 (((((List.replicate n 0)).set 12 8)).set 13 0)) ∧ (V4.setCell ⟨g, 12, none⟩ (.int .u8 8)).grownBy ((V4.setCell ⟨g, 12, none⟩ (.int .u8 8)).setCell ⟨g, 13, none⟩ (.int .u8 0)) (some g) := hst1
  have HST1 := Lib.hid hst1
  clear hst1
  go_upto_region 11 with fail
  have gr := (grownBy_trans HST0.out.2 HST1.out.2)
  replace K := Lib.hid (K.out.grown gr K.out.size (fun k e => by first | (cases e; done) | (cases e; first | exact Nat.le_refl _ | omega)))
  replace NK := Lib.hid (show Blk _ _ _ _ from (gr.block _ NK.out.lt (by first | (simp; done) | (simp; omega))).trans NK.out)
  replace O := Lib.hid HST1.out.1
  clear gr HST0 HST1 c12x f12x c13x f13x
  generalize ((V4.setCell ⟨g, 12, none⟩ (.int .u8 8)).setCell ⟨g, 13, none⟩ (.int .u8 0)) = V5 at *
  have L1 : Hid (((((((List.replicate n 0)).set 12 8)).set 13 0)).length = n) := by show _ = _; simp
  have c12x := O.out.cellAt 12 (by omega)
  rw [nus_get _ _ _ (by have q := L1.out; omega)] at c12x
  have f12x := O.out.frozenAt 12
  generalize List.getD (((((List.replicate n 0)).set 12 8)).set 13 0) 12 0 = y12x at c12x
  have c13x := O.out.cellAt 13 (by omega)
  rw [nus_get _ _ _ (by have q := L1.out; omega)] at c13x
  have f13x := O.out.frozenAt 13
  generalize List.getD (((((List.replicate n 0)).set 12 8)).set 13 0) 13 0 = y13x at c13x
  have hst0 := O.out.stored 12 (.int .u8 ((134 : Nat) : Int))
  rw [nus_set] at hst0
  have hst0 : (V5.setCell ⟨g, 12, none⟩ (.int .u8 134)).ownsRow w.heap.size 5 1 (.slice (some ⟨g, 0, none⟩) n n) n (nus .u8 (((((((List.replicate n 0)).set 12 8)).set 13 0)).set 12 134)) ∧ V5.grownBy (V5.setCell ⟨g, 12, none⟩ (.int .u8 134)) (some g) := hst0
  have HST0 := Lib.hid hst0
  clear hst0
  have hst1 := HST0.out.1.stored 13 (.int .u8 ((221 : Nat) : Int))
  rw [nus_set] at hst1
  have hst1 : ((V5.setCell ⟨g, 12, none⟩ (.int .u8 134)).setCell ⟨g, 13, none⟩ (.int .u8 221)).ownsRow w.heap.size 5 1 (.slice (some ⟨g, 0, none⟩) n n) n (nus .u8 (((((((((List.replicate n 0)).set 12 8)).set 13 0)).set 12 134)).set 13 221)) ∧ (V5.setCell ⟨g, 12, none⟩ (.int .u8 134)).grownBy ((V5.setCell ⟨g, 12, none⟩ (.int .u8 134)).setCell ⟨g, 13, none⟩ (.int .u8 221)) (some g) := hst1
  have HST1 := Lib.hid hst1
  clear hst1
  go_upto_region 13 with fail
  have gr := (grownBy_trans HST0.out.2 HST1.out.2)
  replace K := Lib.hid (K.out.grown gr K.out.size (fun k e => by first | (cases e; done) | (cases e; first | exact Nat.le_refl _ | omega)))
  replace NK := Lib.hid (show Blk _ _ _ _ from (gr.block _ NK.out.lt (by first | (simp; done) | (simp; omega))).trans NK.out)
  replace O := Lib.hid HST1.out.1
  clear gr HST0 HST1 c12x f12x c13x f13x
  generalize ((V5.setCell ⟨g, 12, none⟩ (.int .u8 134)).setCell ⟨g, 13, none⟩ (.int .u8 221)) = V6 at *
  have hF := HM.out ((((((((((List.replicate n 0)).set 12 8)).set 13 0)).set 12 134)).set 13 221)) rfl
  have hRL : ((((((((((List.replicate n 0)).set 12 8)).set 13 0)).set 12 134)).set 13 221)).length = n := by simp
  generalize (((((((((List.replicate n 0)).set 12 8)).set 13 0)).set 12 134)).set 13 221) = R at *
  have HF := Lib.hid hF
  have HRL := Lib.hid hRL
  clear hF hRL HM
  have L3 : (loadVar 27 ⟨V2.heap.size, 1, none⟩).run Try.prog V6 = .ok (.agg SA) V6 := by have h := run_part_load (P := Try.prog) 27 1 SA.toList _ NK.out kp1.out Try.underlying27 rfl IS.out; rwa [Array.toArray_toList] at h
  replace L3 := Lib.hid L3
  have L4 : (loadVar 27 ⟨V2.heap.size, 18, none⟩).run Try.prog V6 = .ok (.agg DA) V6 := by have h := run_part_load (P := Try.prog) 27 18 DA.toList _ NK.out kp2.out Try.underlying27 rfl ID.out; rwa [Array.toArray_toList] at h
  replace L4 := Lib.hid L4
  have L5 := (NK.out.cell 0).trans kg0.out
  go_wp2_with (first | ((with_reducible refine wpList_load_want (op := ⟨some 42, .load 27 (.tmp 41), _, _, _, _⟩) ?wg3 27 (.tmp 41) ?wo3 ⟨V2.heap.size, 1, none⟩ ?wx3 (.agg SA) L3.out ?_); (case wg3 => rfl); (case wo3 => rfl); (case wx3 => rfl)) | ((with_reducible refine wpList_load_want (op := ⟨some 44, .load 27 (.tmp 43), _, _, _, _⟩) ?wg4 27 (.tmp 43) ?wo4 ⟨V2.heap.size, 18, none⟩ ?wx4 (.agg DA) L4.out ?_); (case wg4 => rfl); (case wo4 => rfl); (case wx4 => rfl)))
  clear L3 L4 L5
  refine (CM.out V6).mono ?_
  rintro e V7 ⟨x1, rfl, rx, hy⟩
  replace K := Lib.hid (K.out.trans (hy.mono K.out.size))
  replace NK := Lib.hid (NK.out.below hy NK.out.lt)
  replace O := Lib.hid (row_under O.out hy)
  have RX := Lib.hid (rx)
  clear rx
  obtain ⟨ax, cx, ex, -, -⟩ := rd_shape RX.out
  rw [HHL.out] at ex
  subst ex
  clear hy
  have q14 : (14 : Int) ≤ (n : Int) := by omega
  have q14b : ¬ n = 14 := by omega
  go_wp2_with (((with_reducible refine copy_into ?cg (.tmp 57) (.tmp 58) 22 22 ?co 5 Try.underlying22 Try.size5 g 14 n n w.heap.size (n - 14) (n - 14) 5 .u8 R H ax 40 cx ?cd ?cs O.out RX.out ?cf ?ce ?_); (case cg => rfl); (case co => rfl); (case cd => rfl); (case cs => rfl); (case cf => omega); (case ce => omega)))
  intro V8 oz gr
  clear q14 q14b
  replace K := Lib.hid (K.out.grown gr K.out.size (fun k e => by first | (cases e; done) | (cases e; first | exact Nat.le_refl _ | omega)))
  replace NK := Lib.hid (show Blk _ _ _ _ from (gr.block _ NK.out.lt (by first | (simp; done) | (simp; omega))).trans NK.out)
  have O := Lib.hid oz.out
  clear oz gr RX
  have L2 : Hid ((ov R H 14).length = n) := by show _ = _; rw [ov_length _ _ _ (by rw [HHL.out, HRL.out]; omega), HRL.out]
  have c58x := O.out.cellAt 58 (by omega)
  rw [nus_get _ _ _ (by have q := L2.out; omega)] at c58x
  have f58x := O.out.frozenAt 58
  generalize List.getD (ov R H 14) 58 0 = y58x at c58x
  have c59x := O.out.cellAt 59 (by omega)
  rw [nus_get _ _ _ (by have q := L2.out; omega)] at c59x
  have f59x := O.out.frozenAt 59
  generalize List.getD (ov R H 14) 59 0 = y59x at c59x
  have hst0 := O.out.stored 58 (.int .u8 ((0 : Nat) : Int))
  rw [nus_set] at hst0
  have hst0 : (V8.setCell ⟨g, 58, none⟩ (.int .u8 0)).ownsRow w.heap.size 5 1 (.slice (some ⟨g, 0, none⟩) n n) n (nus .u8 (((ov R H 14)).set 58 0)) ∧ V8.grownBy (V8.setCell ⟨g, 58, none⟩ (.int .u8 0)) (some g) := hst0
  have HST0 := Lib.hid hst0
  clear hst0
  have hst1 := HST0.out.1.stored 59 (.int .u8 ((8 : Nat) : Int))
  rw [nus_set] at hst1
  have hst1 : ((V8.setCell ⟨g, 58, none⟩ (.int .u8 0)).setCell ⟨g, 59, none⟩ (.int .u8 8)).ownsRow w.heap.size 5 1 (.slice (some ⟨g, 0, none⟩) n n) n (nus .u8 (((((ov R H 14)).set 58 0)).set 59 8)) ∧ (V8.setCell ⟨g, 58, none⟩ (.int .u8 0)).grownBy ((V8.setCell ⟨g, 58, none⟩ (.int .u8 0)).setCell ⟨g, 59, none⟩ (.int .u8 8)) (some g) := hst1
  have HST1 := Lib.hid hst1
  clear hst1
  go_upto_region 18 with fail
  have gr := (grownBy_trans HST0.out.2 HST1.out.2)
  replace K := Lib.hid (K.out.grown gr K.out.size (fun k e => by first | (cases e; done) | (cases e; first | exact Nat.le_refl _ | omega)))
  replace NK := Lib.hid (show Blk _ _ _ _ from (gr.block _ NK.out.lt (by first | (simp; done) | (simp; omega))).trans NK.out)
  replace O := Lib.hid HST1.out.1
  clear gr HST0 HST1 c58x f58x c59x f59x
  generalize ((V8.setCell ⟨g, 58, none⟩ (.int .u8 0)).setCell ⟨g, 59, none⟩ (.int .u8 8)) = V9 at *
  have RO := Rd.own O.out
  rw [show ((ov R H 14).set 58 0).set 59 8 = BF from HF.out] at RO
  have RO := Lib.hid RO
  clear O
  obtain ⟨ns, hns⟩ : ∃ x, x = n + 40 := ⟨_, rfl⟩
  have wsum : IntKind.i64.wrap ((n : Int) + 40) = (ns : Int) := by rw [IntKind.wrap_i64]; omega
  rw [← hns] at C1 C2 HFL
  have hcast : (n : Int) + 40 = (ns : Int) := by omega
  have hnsl : ns ≤ 65700 := by omega
  clear hns wn wm hn5 hn6 hgl
  by_cases hs : ns ≤ 65535
  · have d1 : decide ((65535 : Int) < (ns : Int)) = false := by rw [decide_eq_false_iff_not]; omega
    have d2 : decide (65535 < ns) = false := by rw [decide_eq_false_iff_not]; omega
    go_wp2_with fail
    refine (CO4.out V9).mono ?_
    rintro e V10 ⟨rfl, hy⟩
    replace K := Lib.hid (K.out.trans (hy.mono K.out.size))
    replace NK := Lib.hid (NK.out.below hy NK.out.lt)
    replace RO := Lib.hid (RO.out.below hy)
    clear hy
    go_wp2_with fail
    refine (CO6.out V10).mono ?_
    rintro e V11 ⟨rfl, hy⟩
    replace K := Lib.hid (K.out.trans (hy.mono K.out.size))
    replace NK := Lib.hid (NK.out.below hy NK.out.lt)
    replace RO := Lib.hid (RO.out.below hy)
    clear hy
    go_wp2_with fail
    refine (CD.out V11).mono ?_
    rintro e V12 ⟨rfl, hy⟩
    replace K := Lib.hid (K.out.trans (hy.mono K.out.size))
    replace NK := Lib.hid (NK.out.below hy NK.out.lt)
    replace RO := Lib.hid (RO.out.below hy)
    clear hy
    go_wp2_with (((with_reducible refine wpList_field_want (op := ⟨some 98, .field 33 (.tmp 97) 0, _, _, _, _⟩) ?wg6 33 (.tmp 97) 0 ?wo6 (.agg dc) (.agg A1) ?wx6 (F1.out _) ?_); (case wg6 => rfl); (case wo6 => rfl); (case wx6 => rfl)))
    refine (C1.out hs V12 _ RO.out).mono ?_
    rintro e V13 ⟨x2, rfl, rf, hy⟩
    replace K := Lib.hid (K.out.trans (hy.mono K.out.size))
    replace NK := Lib.hid (NK.out.below hy NK.out.lt)
    replace RO := Lib.hid (RO.out.below hy)
    obtain ⟨af, cf, ef, -, -⟩ := rd_shape rf
    rw [HFL.out hs] at ef
    subst ef
    clear rf
    clear hy
    go_wp2_with fail
    refine (HA.out V13).mono ?_
    rintro e V14 ⟨rfl, hy⟩
    replace K := Lib.hid (K.out.trans (hy.mono K.out.size))
    replace NK := Lib.hid (NK.out.below hy NK.out.lt)
    replace RO := Lib.hid (RO.out.below hy)
    clear hy
    go_wp2
    go_ret
    exact ⟨rfl, K.out⟩
  · have d1 : decide ((65535 : Int) < (ns : Int)) = true := by rw [decide_eq_true_iff]; omega
    have d2 : decide (65535 < ns) = true := by rw [decide_eq_true_iff]; omega
    go_wp2_with fail
    refine (CO4.out V9).mono ?_
    rintro e V10 ⟨rfl, hy⟩
    replace K := Lib.hid (K.out.trans (hy.mono K.out.size))
    replace NK := Lib.hid (NK.out.below hy NK.out.lt)
    replace RO := Lib.hid (RO.out.below hy)
    clear hy
    go_wp2_with fail
    refine (CO6.out V10).mono ?_
    rintro e V11 ⟨rfl, hy⟩
    replace K := Lib.hid (K.out.trans (hy.mono K.out.size))
    replace NK := Lib.hid (NK.out.below hy NK.out.lt)
    replace RO := Lib.hid (RO.out.below hy)
    clear hy
    go_wp2_with fail
    refine (CD.out V11).mono ?_
    rintro e V12 ⟨rfl, hy⟩
    replace K := Lib.hid (K.out.trans (hy.mono K.out.size))
    replace NK := Lib.hid (NK.out.below hy NK.out.lt)
    replace RO := Lib.hid (RO.out.below hy)
    clear hy
    go_wp2_with (((with_reducible refine wpList_field_want (op := ⟨some 98, .field 33 (.tmp 97) 0, _, _, _, _⟩) ?wg7 33 (.tmp 97) 0 ?wo7 (.agg dc) (.agg A1) ?wx7 (F1.out _) ?_); (case wg7 => rfl); (case wo7 => rfl); (case wx7 => rfl)))
    refine (C2.out (by omega) V12 _ RO.out).mono ?_
    rintro e V13 ⟨rfl, hy⟩
    replace K := Lib.hid (K.out.trans (hy.mono K.out.size))
    replace NK := Lib.hid (NK.out.below hy NK.out.lt)
    replace RO := Lib.hid (RO.out.below hy)
    clear hy
    go_wp2_with fail
    refine (HA.out V13).mono ?_
    rintro e V14 ⟨rfl, hy⟩
    replace K := Lib.hid (K.out.trans (hy.mono K.out.size))
    replace NK := Lib.hid (NK.out.below hy NK.out.lt)
    replace RO := Lib.hid (RO.out.below hy)
    clear hy
    go_wp2
    go_ret
    exact ⟨rfl, K.out⟩
set_option maxRecDepth 100000 in
set_option maxHeartbeats 8000000 in
theorem big_64 (pad : Int) (w : World) : Calls Try.prog 5 #[.bool true, .bool false, .int .i64 pad] w fun e w' => e = .returned (.bool true) ∧ Below w.heap.size w w' := by
  have K := Lib.hid (Below.refl w.heap.size w)
  have HA := Lib.hid (fun W => awake_any W)
  obtain ⟨r, hr⟩ : ∃ x : Nat, x = (pad % 5).toNat := ⟨_, rfl⟩
  have hre : pad % 5 = (r : Int) := by omega
  have hrl : r < 5 := by omega
  have CR := Lib.hid (fun W => round_any pad 5 W (by omega) (by omega))
  rw [hre] at CR
  obtain ⟨n, hn⟩ : ∃ x : Nat, x = 65513 + r := ⟨_, rfl⟩
  obtain ⟨m, hm⟩ : ∃ x : Nat, x = n - 54 := ⟨_, rfl⟩
  have hnm : n = 14 + hH true + m := by have : hH true = 40 := rfl; omega
  have CK := Lib.hid (fun W => flow_any 3 true true W)
  rw [show ((3 : Int) % 1073741824).toNat = 3 from by decide] at CK
  have CM := Lib.hid (fun W => six_made m (by omega) W)
  have hB := big true m (by omega) (by omega)
  have hBs := big_s true false m (by omega) (by omega)
  have hBl := big_lt true m
  have hBn := big_len true m (by omega)
  have hmade := fun R hR => big_made true m n (by omega) hnm R hR
  have s1 : (cellsA false (D16 1)).size = 17 := by rw [cellsA_size, D16_len]
  have F1 := Lib.hid (fun W => dip_addr (cellsA false (D16 1)) 8001 s1 W)
  have CD := Lib.hid (fun W => dip16 1 false W)
  rw [show ((1 : Int) % 200).toNat = 1 from by decide, show (8000 + ((1 : Int) % 1000).toNat) = 8001 from by decide] at CD
  have CO4 := Lib.hid (fun W => own_any false W)
  have CO6 := Lib.hid (fun W => own_any true W)
  have b1 := D16_lt 1 (by decide)
  have b5 := D16_lt 150 (by decide)
  have hin : inS (bigF true m) false = n + 20 := by rw [hBs, hnm]; rfl
  have hHl : (headB true (sV 3) dV 17 m).length = 40 := headB_len true (sV 3) dV 17 m (sV_len 3) dV_len
  have C1 := Lib.hid (fun (hs : n + 20 ≤ 65535) W z (h : Rd W z (nus .u8 (bigF true m))) => in_own z (bigF true m) (D16 1) false W h hBl (by omega) hB.rr (D16_len _) b1 (D16_v _ _) (by rw [hin]; exact hs))
  have C2 := Lib.hid (fun (hs : 65535 < n + 20) W z (h : Rd W z (nus .u8 (bigF true m))) => in_own_big z (bigF true m) (D16 1) false W h hBl (by omega) hB.rr (D16_len _) b1 (D16_v _ _) (by rw [hin]; exact hs))
  have hFl : n + 20 ≤ 65535 → (inn (bigF true m) false (D16 150) (D16 1)).length = n + 20 := fun hs => by
    rw [(was (bigF true m) false (D16 150) (D16 1) hBl hB.rr (D16_len _) (D16_len _) (D16_v _ _) (D16_v _ _) (by rw [hin]; exact hs)).len, hin]
  have HFL := Lib.hid hFl
  have zk := flow_size 3 true true
  have Ak := Lib.hid (flow_all 3 true true)
  have kp1 := Lib.hid (show ((flow 3 true true).toList.drop 1).take (cellsA true (sV 3)).toList.length = (cellsA true (sV 3)).toList from kcells_src _ _ _ _ _)
  have kp2 := Lib.hid (show ((flow 3 true true).toList.drop 18).take (cellsA true dV).toList.length = (cellsA true dV).toList from kcells_dst _ _ _ _ _ (by rw [cellsA_size, sV_len]))
  have kg0 := Lib.hid (show (flow 3 true true)[0]? = some (.int .u8 17) from rfl)
  have IS := Lib.hid (i24.trans (congrArg some (show (17 : Nat) = (cellsA true (sV 3)).toList.length from by rw [Array.length_toList, cellsA_size, sV_len])))
  have ID := Lib.hid (i24.trans (congrArg some (show (17 : Nat) = (cellsA true dV).toList.length from by rw [Array.length_toList, cellsA_size, dV_len])))
  have Yk : Hid ((flow 3 true true).size = Array.size (ZcK : Array Value)) := zk
  have Zk := Lib.hid (i42.trans (congrArg some zk.symm))
  have HM := Lib.hid hmade
  have HHL := Lib.hid hHl
  clear hB hBs hBl hBn hmade s1 b1 b5 hin hFl hr hre zk hHl hnm
  unfold adr at CM CO4 CO6 C1 C2
  generalize bigF true m = BF at *
  generalize inn BF false (D16 150) (D16 1) = FF at *
  generalize cellsA false (D16 1) = A1 at *
  generalize cellsA false (D16 150) = A4 at *
  generalize cellsA true (D16 150) = A6 at *
  generalize cellsA true (sV 3) = SA at *
  generalize cellsA true dV = DA at *
  generalize flow 3 true true = kc at *
  generalize dcells A1 8001 = dc at *
  generalize headB true (sV 3) dV 17 m = H at *
  have wn : (65515 : Int) + (r : Int) - 2 = (n : Int) := by omega
  have wm : (n : Int) - 14 - 40 = (m : Int) := by omega
  have hn5 : 60000 ≤ n ∧ n ≤ 65600 := by omega
  obtain ⟨hn5, hn6⟩ := hn5
  clear hn hm
  go_enter Try.func5, Try.ntmps5
  go_wp2_with fail
  refine (CR.out _).mono ?_
  rintro e V1 ⟨rfl, rfl⟩
  go_wp2_with fail
  refine (CK.out w).mono ?_
  rintro e V2 ⟨rfl, hy⟩
  replace K := Lib.hid (K.out.trans (hy.mono K.out.size))
  clear hy
  go_wp2_with (((with_reducible refine wpList_blk_store (op := ⟨none, .store 30 (.tmp 9) (.tmp 27), _, _, _, _⟩) ?sg8 30 (.tmp 9) (.tmp 27) ?so8 (V2.heap.size) kc ?sx8 ?sy8 (Blk.new V2 30 ZcK) Yk.out Zk.out Ak.out ?_); (case sg8 => rfl); (case so8 => rfl); (case sx8 => rfl); (case sy8 => rfl)))
  intro V3 hA hF hB
  have hy := ((Below.refl V2.heap.size V2).alloc (Nat.le_refl _) (.cells ZcK 30)).trans (hB _ (Nat.le_refl _))
  replace K := Lib.hid (K.out.trans (hy.mono K.out.size))
  have NK := Lib.hid hA
  clear hA hF hB hy
  have qNK := NK.out.lt
  obtain ⟨g, hg⟩ : ∃ g, g = V3.heap.size := ⟨_, rfl⟩
  have hgl : w.heap.size ≤ g := by rw [hg]; exact K.out.size
  rw [← hg] at qNK
  obtain ⟨i0, hi, hz0, hz1, hz2⟩ := info_parts Try.info5
  have hbase : w.heap.size ≤ V3.heap.size := K.out.size
  go_wp2_with ((at_make; refine wpList_make_full _ rfl _ _ 22 rfl w.heap.size 5 i0 (.int .u8 0) 1 Try.underlying22 hi hz0 hz1 .i64 .i64 _ _ n rfl rfl ?mk9a ?mk9b ?mk9c ?mk9d hbase ?_))
  case mk9a => omega
  case mk9b => omega
  case mk9c => rw [hz2]; omega
  case mk9d => unfold maxLen; omega
  intro V4 o1 g1
  rw [toList_madeCells_one, show List.replicate n (Value.int .u8 0) = nus .u8 (List.replicate n 0) from by simp [nus]] at o1
  replace K := Lib.hid (K.out.grown g1 K.out.size (fun k e => by first | (cases e; done) | (cases e; first | exact Nat.le_refl _ | omega)))
  replace NK := Lib.hid (show Blk _ _ _ _ from (g1.block _ NK.out.lt (by first | (simp; done) | (simp; omega))).trans NK.out)
  have O := Lib.hid (show V4.ownsRow w.heap.size 5 1 _ n (nus .u8 (List.replicate n 0)) from o1)
  clear o1 g1 hi hz0 hz1 hz2 hbase
  rw [← hg] at O ⊢
  clear hg
  have hnm2 : n ≤ maxLen := by simp [maxLen]; omega
  have L0 : Hid ((List.replicate n 0).length = n) := by show _ = _; simp
  have c12x := O.out.cellAt 12 (by omega)
  rw [nus_get _ _ _ (by have q := L0.out; omega)] at c12x
  have f12x := O.out.frozenAt 12
  generalize List.getD (List.replicate n 0) 12 0 = y12x at c12x
  have c13x := O.out.cellAt 13 (by omega)
  rw [nus_get _ _ _ (by have q := L0.out; omega)] at c13x
  have f13x := O.out.frozenAt 13
  generalize List.getD (List.replicate n 0) 13 0 = y13x at c13x
  have hst0 := O.out.stored 12 (.int .u8 ((8 : Nat) : Int))
  rw [nus_set] at hst0
  have hst0 : (V4.setCell ⟨g, 12, none⟩ (.int .u8 8)).ownsRow w.heap.size 5 1 (.slice (some ⟨g, 0, none⟩) n n) n (nus .u8 (((List.replicate n 0)).set 12 8)) ∧ V4.grownBy (V4.setCell ⟨g, 12, none⟩ (.int .u8 8)) (some g) := hst0
  have HST0 := Lib.hid hst0
  clear hst0
  have hst1 := HST0.out.1.stored 13 (.int .u8 ((0 : Nat) : Int))
  rw [nus_set] at hst1
  have hst1 : ((V4.setCell ⟨g, 12, none⟩ (.int .u8 8)).setCell ⟨g, 13, none⟩ (.int .u8 0)).ownsRow w.heap.size 5 1 (.slice (some ⟨g, 0, none⟩) n n) n (nus .u8 (((((List.replicate n 0)).set 12 8)).set 13 0)) ∧ (V4.setCell ⟨g, 12, none⟩ (.int .u8 8)).grownBy ((V4.setCell ⟨g, 12, none⟩ (.int .u8 8)).setCell ⟨g, 13, none⟩ (.int .u8 0)) (some g) := hst1
  have HST1 := Lib.hid hst1
  clear hst1
  go_upto_region 11 with fail
  have gr := (grownBy_trans HST0.out.2 HST1.out.2)
  replace K := Lib.hid (K.out.grown gr K.out.size (fun k e => by first | (cases e; done) | (cases e; first | exact Nat.le_refl _ | omega)))
  replace NK := Lib.hid (show Blk _ _ _ _ from (gr.block _ NK.out.lt (by first | (simp; done) | (simp; omega))).trans NK.out)
  replace O := Lib.hid HST1.out.1
  clear gr HST0 HST1 c12x f12x c13x f13x
  generalize ((V4.setCell ⟨g, 12, none⟩ (.int .u8 8)).setCell ⟨g, 13, none⟩ (.int .u8 0)) = V5 at *
  have L1 : Hid (((((((List.replicate n 0)).set 12 8)).set 13 0)).length = n) := by show _ = _; simp
  have c12x := O.out.cellAt 12 (by omega)
  rw [nus_get _ _ _ (by have q := L1.out; omega)] at c12x
  have f12x := O.out.frozenAt 12
  generalize List.getD (((((List.replicate n 0)).set 12 8)).set 13 0) 12 0 = y12x at c12x
  have c13x := O.out.cellAt 13 (by omega)
  rw [nus_get _ _ _ (by have q := L1.out; omega)] at c13x
  have f13x := O.out.frozenAt 13
  generalize List.getD (((((List.replicate n 0)).set 12 8)).set 13 0) 13 0 = y13x at c13x
  have hst0 := O.out.stored 12 (.int .u8 ((134 : Nat) : Int))
  rw [nus_set] at hst0
  have hst0 : (V5.setCell ⟨g, 12, none⟩ (.int .u8 134)).ownsRow w.heap.size 5 1 (.slice (some ⟨g, 0, none⟩) n n) n (nus .u8 (((((((List.replicate n 0)).set 12 8)).set 13 0)).set 12 134)) ∧ V5.grownBy (V5.setCell ⟨g, 12, none⟩ (.int .u8 134)) (some g) := hst0
  have HST0 := Lib.hid hst0
  clear hst0
  have hst1 := HST0.out.1.stored 13 (.int .u8 ((221 : Nat) : Int))
  rw [nus_set] at hst1
  have hst1 : ((V5.setCell ⟨g, 12, none⟩ (.int .u8 134)).setCell ⟨g, 13, none⟩ (.int .u8 221)).ownsRow w.heap.size 5 1 (.slice (some ⟨g, 0, none⟩) n n) n (nus .u8 (((((((((List.replicate n 0)).set 12 8)).set 13 0)).set 12 134)).set 13 221)) ∧ (V5.setCell ⟨g, 12, none⟩ (.int .u8 134)).grownBy ((V5.setCell ⟨g, 12, none⟩ (.int .u8 134)).setCell ⟨g, 13, none⟩ (.int .u8 221)) (some g) := hst1
  have HST1 := Lib.hid hst1
  clear hst1
  go_upto_region 13 with fail
  have gr := (grownBy_trans HST0.out.2 HST1.out.2)
  replace K := Lib.hid (K.out.grown gr K.out.size (fun k e => by first | (cases e; done) | (cases e; first | exact Nat.le_refl _ | omega)))
  replace NK := Lib.hid (show Blk _ _ _ _ from (gr.block _ NK.out.lt (by first | (simp; done) | (simp; omega))).trans NK.out)
  replace O := Lib.hid HST1.out.1
  clear gr HST0 HST1 c12x f12x c13x f13x
  generalize ((V5.setCell ⟨g, 12, none⟩ (.int .u8 134)).setCell ⟨g, 13, none⟩ (.int .u8 221)) = V6 at *
  have hF := HM.out ((((((((((List.replicate n 0)).set 12 8)).set 13 0)).set 12 134)).set 13 221)) rfl
  have hRL : ((((((((((List.replicate n 0)).set 12 8)).set 13 0)).set 12 134)).set 13 221)).length = n := by simp
  generalize (((((((((List.replicate n 0)).set 12 8)).set 13 0)).set 12 134)).set 13 221) = R at *
  have HF := Lib.hid hF
  have HRL := Lib.hid hRL
  clear hF hRL HM
  have L10 : (loadVar 27 ⟨V2.heap.size, 1, none⟩).run Try.prog V6 = .ok (.agg SA) V6 := by have h := run_part_load (P := Try.prog) 27 1 SA.toList _ NK.out kp1.out Try.underlying27 rfl IS.out; rwa [Array.toArray_toList] at h
  replace L10 := Lib.hid L10
  have L11 : (loadVar 27 ⟨V2.heap.size, 18, none⟩).run Try.prog V6 = .ok (.agg DA) V6 := by have h := run_part_load (P := Try.prog) 27 18 DA.toList _ NK.out kp2.out Try.underlying27 rfl ID.out; rwa [Array.toArray_toList] at h
  replace L11 := Lib.hid L11
  have L12 := (NK.out.cell 0).trans kg0.out
  go_wp2_with (first | ((with_reducible refine wpList_load_want (op := ⟨some 42, .load 27 (.tmp 41), _, _, _, _⟩) ?wg10 27 (.tmp 41) ?wo10 ⟨V2.heap.size, 1, none⟩ ?wx10 (.agg SA) L10.out ?_); (case wg10 => rfl); (case wo10 => rfl); (case wx10 => rfl)) | ((with_reducible refine wpList_load_want (op := ⟨some 44, .load 27 (.tmp 43), _, _, _, _⟩) ?wg11 27 (.tmp 43) ?wo11 ⟨V2.heap.size, 18, none⟩ ?wx11 (.agg DA) L11.out ?_); (case wg11 => rfl); (case wo11 => rfl); (case wx11 => rfl)))
  clear L10 L11 L12
  refine (CM.out V6).mono ?_
  rintro e V7 ⟨x1, rfl, rx, hy⟩
  replace K := Lib.hid (K.out.trans (hy.mono K.out.size))
  replace NK := Lib.hid (NK.out.below hy NK.out.lt)
  replace O := Lib.hid (row_under O.out hy)
  have RX := Lib.hid (rx)
  clear rx
  obtain ⟨ax, cx, ex, -, -⟩ := rd_shape RX.out
  rw [HHL.out] at ex
  subst ex
  clear hy
  have q14 : (14 : Int) ≤ (n : Int) := by omega
  have q14b : ¬ n = 14 := by omega
  go_wp2_with (((with_reducible refine copy_into ?cg (.tmp 57) (.tmp 58) 22 22 ?co 5 Try.underlying22 Try.size5 g 14 n n w.heap.size (n - 14) (n - 14) 5 .u8 R H ax 40 cx ?cd ?cs O.out RX.out ?cf ?ce ?_); (case cg => rfl); (case co => rfl); (case cd => rfl); (case cs => rfl); (case cf => omega); (case ce => omega)))
  intro V8 oz gr
  clear q14 q14b
  replace K := Lib.hid (K.out.grown gr K.out.size (fun k e => by first | (cases e; done) | (cases e; first | exact Nat.le_refl _ | omega)))
  replace NK := Lib.hid (show Blk _ _ _ _ from (gr.block _ NK.out.lt (by first | (simp; done) | (simp; omega))).trans NK.out)
  have O := Lib.hid oz.out
  clear oz gr RX
  have L2 : Hid ((ov R H 14).length = n) := by show _ = _; rw [ov_length _ _ _ (by rw [HHL.out, HRL.out]; omega), HRL.out]
  have c58x := O.out.cellAt 58 (by omega)
  rw [nus_get _ _ _ (by have q := L2.out; omega)] at c58x
  have f58x := O.out.frozenAt 58
  generalize List.getD (ov R H 14) 58 0 = y58x at c58x
  have c59x := O.out.cellAt 59 (by omega)
  rw [nus_get _ _ _ (by have q := L2.out; omega)] at c59x
  have f59x := O.out.frozenAt 59
  generalize List.getD (ov R H 14) 59 0 = y59x at c59x
  have hst0 := O.out.stored 58 (.int .u8 ((0 : Nat) : Int))
  rw [nus_set] at hst0
  have hst0 : (V8.setCell ⟨g, 58, none⟩ (.int .u8 0)).ownsRow w.heap.size 5 1 (.slice (some ⟨g, 0, none⟩) n n) n (nus .u8 (((ov R H 14)).set 58 0)) ∧ V8.grownBy (V8.setCell ⟨g, 58, none⟩ (.int .u8 0)) (some g) := hst0
  have HST0 := Lib.hid hst0
  clear hst0
  have hst1 := HST0.out.1.stored 59 (.int .u8 ((8 : Nat) : Int))
  rw [nus_set] at hst1
  have hst1 : ((V8.setCell ⟨g, 58, none⟩ (.int .u8 0)).setCell ⟨g, 59, none⟩ (.int .u8 8)).ownsRow w.heap.size 5 1 (.slice (some ⟨g, 0, none⟩) n n) n (nus .u8 (((((ov R H 14)).set 58 0)).set 59 8)) ∧ (V8.setCell ⟨g, 58, none⟩ (.int .u8 0)).grownBy ((V8.setCell ⟨g, 58, none⟩ (.int .u8 0)).setCell ⟨g, 59, none⟩ (.int .u8 8)) (some g) := hst1
  have HST1 := Lib.hid hst1
  clear hst1
  go_upto_region 18 with fail
  have gr := (grownBy_trans HST0.out.2 HST1.out.2)
  replace K := Lib.hid (K.out.grown gr K.out.size (fun k e => by first | (cases e; done) | (cases e; first | exact Nat.le_refl _ | omega)))
  replace NK := Lib.hid (show Blk _ _ _ _ from (gr.block _ NK.out.lt (by first | (simp; done) | (simp; omega))).trans NK.out)
  replace O := Lib.hid HST1.out.1
  clear gr HST0 HST1 c58x f58x c59x f59x
  generalize ((V8.setCell ⟨g, 58, none⟩ (.int .u8 0)).setCell ⟨g, 59, none⟩ (.int .u8 8)) = V9 at *
  have RO := Rd.own O.out
  rw [show ((ov R H 14).set 58 0).set 59 8 = BF from HF.out] at RO
  have RO := Lib.hid RO
  clear O
  obtain ⟨ns, hns⟩ : ∃ x, x = n + 20 := ⟨_, rfl⟩
  have wsum : IntKind.i64.wrap ((n : Int) + 20) = (ns : Int) := by rw [IntKind.wrap_i64]; omega
  rw [← hns] at C1 C2 HFL
  have hcast : (n : Int) + 20 = (ns : Int) := by omega
  have hnsl : ns ≤ 65700 := by omega
  clear hns wn wm hn5 hn6 hgl
  by_cases hs : ns ≤ 65535
  · have d1 : decide ((65535 : Int) < (ns : Int)) = false := by rw [decide_eq_false_iff_not]; omega
    have d2 : decide (65535 < ns) = false := by rw [decide_eq_false_iff_not]; omega
    go_wp2_with fail
    refine (CO4.out V9).mono ?_
    rintro e V10 ⟨rfl, hy⟩
    replace K := Lib.hid (K.out.trans (hy.mono K.out.size))
    replace NK := Lib.hid (NK.out.below hy NK.out.lt)
    replace RO := Lib.hid (RO.out.below hy)
    clear hy
    go_wp2_with fail
    refine (CO6.out V10).mono ?_
    rintro e V11 ⟨rfl, hy⟩
    replace K := Lib.hid (K.out.trans (hy.mono K.out.size))
    replace NK := Lib.hid (NK.out.below hy NK.out.lt)
    replace RO := Lib.hid (RO.out.below hy)
    clear hy
    go_wp2_with fail
    refine (CD.out V11).mono ?_
    rintro e V12 ⟨rfl, hy⟩
    replace K := Lib.hid (K.out.trans (hy.mono K.out.size))
    replace NK := Lib.hid (NK.out.below hy NK.out.lt)
    replace RO := Lib.hid (RO.out.below hy)
    clear hy
    go_wp2_with (((with_reducible refine wpList_field_want (op := ⟨some 98, .field 33 (.tmp 97) 0, _, _, _, _⟩) ?wg13 33 (.tmp 97) 0 ?wo13 (.agg dc) (.agg A1) ?wx13 (F1.out _) ?_); (case wg13 => rfl); (case wo13 => rfl); (case wx13 => rfl)))
    refine (C1.out hs V12 _ RO.out).mono ?_
    rintro e V13 ⟨x2, rfl, rf, hy⟩
    replace K := Lib.hid (K.out.trans (hy.mono K.out.size))
    replace NK := Lib.hid (NK.out.below hy NK.out.lt)
    replace RO := Lib.hid (RO.out.below hy)
    obtain ⟨af, cf, ef, -, -⟩ := rd_shape rf
    rw [HFL.out hs] at ef
    subst ef
    clear rf
    clear hy
    go_wp2_with fail
    refine (HA.out V13).mono ?_
    rintro e V14 ⟨rfl, hy⟩
    replace K := Lib.hid (K.out.trans (hy.mono K.out.size))
    replace NK := Lib.hid (NK.out.below hy NK.out.lt)
    replace RO := Lib.hid (RO.out.below hy)
    clear hy
    go_wp2
    go_ret
    exact ⟨rfl, K.out⟩
  · have d1 : decide ((65535 : Int) < (ns : Int)) = true := by rw [decide_eq_true_iff]; omega
    have d2 : decide (65535 < ns) = true := by rw [decide_eq_true_iff]; omega
    go_wp2_with fail
    refine (CO4.out V9).mono ?_
    rintro e V10 ⟨rfl, hy⟩
    replace K := Lib.hid (K.out.trans (hy.mono K.out.size))
    replace NK := Lib.hid (NK.out.below hy NK.out.lt)
    replace RO := Lib.hid (RO.out.below hy)
    clear hy
    go_wp2_with fail
    refine (CO6.out V10).mono ?_
    rintro e V11 ⟨rfl, hy⟩
    replace K := Lib.hid (K.out.trans (hy.mono K.out.size))
    replace NK := Lib.hid (NK.out.below hy NK.out.lt)
    replace RO := Lib.hid (RO.out.below hy)
    clear hy
    go_wp2_with fail
    refine (CD.out V11).mono ?_
    rintro e V12 ⟨rfl, hy⟩
    replace K := Lib.hid (K.out.trans (hy.mono K.out.size))
    replace NK := Lib.hid (NK.out.below hy NK.out.lt)
    replace RO := Lib.hid (RO.out.below hy)
    clear hy
    go_wp2_with (((with_reducible refine wpList_field_want (op := ⟨some 98, .field 33 (.tmp 97) 0, _, _, _, _⟩) ?wg14 33 (.tmp 97) 0 ?wo14 (.agg dc) (.agg A1) ?wx14 (F1.out _) ?_); (case wg14 => rfl); (case wo14 => rfl); (case wx14 => rfl)))
    refine (C2.out (by omega) V12 _ RO.out).mono ?_
    rintro e V13 ⟨rfl, hy⟩
    replace K := Lib.hid (K.out.trans (hy.mono K.out.size))
    replace NK := Lib.hid (NK.out.below hy NK.out.lt)
    replace RO := Lib.hid (RO.out.below hy)
    clear hy
    go_wp2_with fail
    refine (HA.out V13).mono ?_
    rintro e V14 ⟨rfl, hy⟩
    replace K := Lib.hid (K.out.trans (hy.mono K.out.size))
    replace NK := Lib.hid (NK.out.below hy NK.out.lt)
    replace RO := Lib.hid (RO.out.below hy)
    clear hy
    go_wp2
    go_ret
    exact ⟨rfl, K.out⟩
set_option maxRecDepth 100000 in
set_option maxHeartbeats 8000000 in
theorem big_46 (pad : Int) (w : World) : Calls Try.prog 5 #[.bool false, .bool true, .int .i64 pad] w fun e w' => e = .returned (.bool true) ∧ Below w.heap.size w w' := by
  have K := Lib.hid (Below.refl w.heap.size w)
  have HA := Lib.hid (fun W => awake_any W)
  obtain ⟨r, hr⟩ : ∃ x : Nat, x = (pad % 5).toNat := ⟨_, rfl⟩
  have hre : pad % 5 = (r : Int) := by omega
  have hrl : r < 5 := by omega
  have CR := Lib.hid (fun W => round_any pad 5 W (by omega) (by omega))
  rw [hre] at CR
  obtain ⟨n, hn⟩ : ∃ x : Nat, x = 65493 + r := ⟨_, rfl⟩
  obtain ⟨m, hm⟩ : ∃ x : Nat, x = n - 34 := ⟨_, rfl⟩
  have hnm : n = 14 + hH false + m := by have : hH false = 20 := rfl; omega
  have CK := Lib.hid (fun W => flow_any 3 false true W)
  rw [show ((3 : Int) % 1073741824).toNat = 3 from by decide] at CK
  have CM := Lib.hid (fun W => four_made m (by omega) W)
  have hB := big false m (by omega) (by omega)
  have hBs := big_s false true m (by omega) (by omega)
  have hBl := big_lt false m
  have hBn := big_len false m (by omega)
  have hmade := fun R hR => big_made false m n (by omega) hnm R hR
  have s1 : (cellsA true (D16 1)).size = 17 := by rw [cellsA_size, D16_len]
  have F1 := Lib.hid (fun W => dip_addr (cellsA true (D16 1)) 8001 s1 W)
  have CD := Lib.hid (fun W => dip16 1 true W)
  rw [show ((1 : Int) % 200).toNat = 1 from by decide, show (8000 + ((1 : Int) % 1000).toNat) = 8001 from by decide] at CD
  have CO4 := Lib.hid (fun W => own_any false W)
  have CO6 := Lib.hid (fun W => own_any true W)
  have b1 := D16_lt 1 (by decide)
  have b5 := D16_lt 150 (by decide)
  have hin : inS (bigF false m) true = n + 40 := by rw [hBs, hnm]; rfl
  have hHl : (headB false (sV 3) dV 17 m).length = 20 := headB_len false (sV 3) dV 17 m (sV_len 3) dV_len
  have C1 := Lib.hid (fun (hs : n + 40 ≤ 65535) W z (h : Rd W z (nus .u8 (bigF false m))) => in_own z (bigF false m) (D16 1) true W h hBl (by omega) hB.rr (D16_len _) b1 (D16_v _ _) (by rw [hin]; exact hs))
  have C2 := Lib.hid (fun (hs : 65535 < n + 40) W z (h : Rd W z (nus .u8 (bigF false m))) => in_own_big z (bigF false m) (D16 1) true W h hBl (by omega) hB.rr (D16_len _) b1 (D16_v _ _) (by rw [hin]; exact hs))
  have hFl : n + 40 ≤ 65535 → (inn (bigF false m) true (D16 150) (D16 1)).length = n + 40 := fun hs => by
    rw [(was (bigF false m) true (D16 150) (D16 1) hBl hB.rr (D16_len _) (D16_len _) (D16_v _ _) (D16_v _ _) (by rw [hin]; exact hs)).len, hin]
  have HFL := Lib.hid hFl
  have zk := flow_size 3 false true
  have Ak := Lib.hid (flow_all 3 false true)
  have kp1 := Lib.hid (show ((flow 3 false true).toList.drop 1).take (cellsA false (sV 3)).toList.length = (cellsA false (sV 3)).toList from kcells_src _ _ _ _ _)
  have kp2 := Lib.hid (show ((flow 3 false true).toList.drop 18).take (cellsA false dV).toList.length = (cellsA false dV).toList from kcells_dst _ _ _ _ _ (by rw [cellsA_size, sV_len]))
  have kg0 := Lib.hid (show (flow 3 false true)[0]? = some (.int .u8 17) from rfl)
  have IS := Lib.hid (i24.trans (congrArg some (show (17 : Nat) = (cellsA false (sV 3)).toList.length from by rw [Array.length_toList, cellsA_size, sV_len])))
  have ID := Lib.hid (i24.trans (congrArg some (show (17 : Nat) = (cellsA false dV).toList.length from by rw [Array.length_toList, cellsA_size, dV_len])))
  have Yk : Hid ((flow 3 false true).size = Array.size (ZcK : Array Value)) := zk
  have Zk := Lib.hid (i42.trans (congrArg some zk.symm))
  have HM := Lib.hid hmade
  have HHL := Lib.hid hHl
  clear hB hBs hBl hBn hmade s1 b1 b5 hin hFl hr hre zk hHl hnm
  unfold adr at CM CO4 CO6 C1 C2
  generalize bigF false m = BF at *
  generalize inn BF true (D16 150) (D16 1) = FF at *
  generalize cellsA true (D16 1) = A1 at *
  generalize cellsA false (D16 150) = A4 at *
  generalize cellsA true (D16 150) = A6 at *
  generalize cellsA false (sV 3) = SA at *
  generalize cellsA false dV = DA at *
  generalize flow 3 false true = kc at *
  generalize dcells A1 8001 = dc at *
  generalize headB false (sV 3) dV 17 m = H at *
  have wn : (65495 : Int) + (r : Int) - 2 = (n : Int) := by omega
  have wm : (n : Int) - 14 - 20 = (m : Int) := by omega
  have hn5 : 60000 ≤ n ∧ n ≤ 65600 := by omega
  obtain ⟨hn5, hn6⟩ := hn5
  clear hn hm
  go_enter Try.func5, Try.ntmps5
  go_wp2_with fail
  refine (CR.out _).mono ?_
  rintro e V1 ⟨rfl, rfl⟩
  go_wp2_with fail
  refine (CK.out w).mono ?_
  rintro e V2 ⟨rfl, hy⟩
  replace K := Lib.hid (K.out.trans (hy.mono K.out.size))
  clear hy
  go_wp2_with (((with_reducible refine wpList_blk_store (op := ⟨none, .store 30 (.tmp 9) (.tmp 27), _, _, _, _⟩) ?sg15 30 (.tmp 9) (.tmp 27) ?so15 (V2.heap.size) kc ?sx15 ?sy15 (Blk.new V2 30 ZcK) Yk.out Zk.out Ak.out ?_); (case sg15 => rfl); (case so15 => rfl); (case sx15 => rfl); (case sy15 => rfl)))
  intro V3 hA hF hB
  have hy := ((Below.refl V2.heap.size V2).alloc (Nat.le_refl _) (.cells ZcK 30)).trans (hB _ (Nat.le_refl _))
  replace K := Lib.hid (K.out.trans (hy.mono K.out.size))
  have NK := Lib.hid hA
  clear hA hF hB hy
  have qNK := NK.out.lt
  obtain ⟨g, hg⟩ : ∃ g, g = V3.heap.size := ⟨_, rfl⟩
  have hgl : w.heap.size ≤ g := by rw [hg]; exact K.out.size
  rw [← hg] at qNK
  obtain ⟨i0, hi, hz0, hz1, hz2⟩ := info_parts Try.info5
  have hbase : w.heap.size ≤ V3.heap.size := K.out.size
  go_wp2_with ((at_make; refine wpList_make_full _ rfl _ _ 22 rfl w.heap.size 5 i0 (.int .u8 0) 1 Try.underlying22 hi hz0 hz1 .i64 .i64 _ _ n rfl rfl ?mk16a ?mk16b ?mk16c ?mk16d hbase ?_))
  case mk16a => omega
  case mk16b => omega
  case mk16c => rw [hz2]; omega
  case mk16d => unfold maxLen; omega
  intro V4 o1 g1
  rw [toList_madeCells_one, show List.replicate n (Value.int .u8 0) = nus .u8 (List.replicate n 0) from by simp [nus]] at o1
  replace K := Lib.hid (K.out.grown g1 K.out.size (fun k e => by first | (cases e; done) | (cases e; first | exact Nat.le_refl _ | omega)))
  replace NK := Lib.hid (show Blk _ _ _ _ from (g1.block _ NK.out.lt (by first | (simp; done) | (simp; omega))).trans NK.out)
  have O := Lib.hid (show V4.ownsRow w.heap.size 5 1 _ n (nus .u8 (List.replicate n 0)) from o1)
  clear o1 g1 hi hz0 hz1 hz2 hbase
  rw [← hg] at O ⊢
  clear hg
  have hnm2 : n ≤ maxLen := by simp [maxLen]; omega
  have L0 : Hid ((List.replicate n 0).length = n) := by show _ = _; simp
  have c12x := O.out.cellAt 12 (by omega)
  rw [nus_get _ _ _ (by have q := L0.out; omega)] at c12x
  have f12x := O.out.frozenAt 12
  generalize List.getD (List.replicate n 0) 12 0 = y12x at c12x
  have c13x := O.out.cellAt 13 (by omega)
  rw [nus_get _ _ _ (by have q := L0.out; omega)] at c13x
  have f13x := O.out.frozenAt 13
  generalize List.getD (List.replicate n 0) 13 0 = y13x at c13x
  have hst0 := O.out.stored 12 (.int .u8 ((8 : Nat) : Int))
  rw [nus_set] at hst0
  have hst0 : (V4.setCell ⟨g, 12, none⟩ (.int .u8 8)).ownsRow w.heap.size 5 1 (.slice (some ⟨g, 0, none⟩) n n) n (nus .u8 (((List.replicate n 0)).set 12 8)) ∧ V4.grownBy (V4.setCell ⟨g, 12, none⟩ (.int .u8 8)) (some g) := hst0
  have HST0 := Lib.hid hst0
  clear hst0
  have hst1 := HST0.out.1.stored 13 (.int .u8 ((0 : Nat) : Int))
  rw [nus_set] at hst1
  have hst1 : ((V4.setCell ⟨g, 12, none⟩ (.int .u8 8)).setCell ⟨g, 13, none⟩ (.int .u8 0)).ownsRow w.heap.size 5 1 (.slice (some ⟨g, 0, none⟩) n n) n (nus .u8 (((((List.replicate n 0)).set 12 8)).set 13 0)) ∧ (V4.setCell ⟨g, 12, none⟩ (.int .u8 8)).grownBy ((V4.setCell ⟨g, 12, none⟩ (.int .u8 8)).setCell ⟨g, 13, none⟩ (.int .u8 0)) (some g) := hst1
  have HST1 := Lib.hid hst1
  clear hst1
  go_upto_region 11 with fail
  have gr := (grownBy_trans HST0.out.2 HST1.out.2)
  replace K := Lib.hid (K.out.grown gr K.out.size (fun k e => by first | (cases e; done) | (cases e; first | exact Nat.le_refl _ | omega)))
  replace NK := Lib.hid (show Blk _ _ _ _ from (gr.block _ NK.out.lt (by first | (simp; done) | (simp; omega))).trans NK.out)
  replace O := Lib.hid HST1.out.1
  clear gr HST0 HST1 c12x f12x c13x f13x
  generalize ((V4.setCell ⟨g, 12, none⟩ (.int .u8 8)).setCell ⟨g, 13, none⟩ (.int .u8 0)) = V5 at *
  have hF := HM.out ((((((List.replicate n 0)).set 12 8)).set 13 0)) rfl
  have hRL : ((((((List.replicate n 0)).set 12 8)).set 13 0)).length = n := by simp
  generalize (((((List.replicate n 0)).set 12 8)).set 13 0) = R at *
  have HF := Lib.hid hF
  have HRL := Lib.hid hRL
  clear hF hRL HM
  have L17 : (loadVar 27 ⟨V2.heap.size, 1, none⟩).run Try.prog V5 = .ok (.agg SA) V5 := by have h := run_part_load (P := Try.prog) 27 1 SA.toList _ NK.out kp1.out Try.underlying27 rfl IS.out; rwa [Array.toArray_toList] at h
  replace L17 := Lib.hid L17
  have L18 : (loadVar 27 ⟨V2.heap.size, 18, none⟩).run Try.prog V5 = .ok (.agg DA) V5 := by have h := run_part_load (P := Try.prog) 27 18 DA.toList _ NK.out kp2.out Try.underlying27 rfl ID.out; rwa [Array.toArray_toList] at h
  replace L18 := Lib.hid L18
  have L19 := (NK.out.cell 0).trans kg0.out
  go_wp2_with (first | ((with_reducible refine wpList_load_want (op := ⟨some 62, .load 27 (.tmp 61), _, _, _, _⟩) ?wg17 27 (.tmp 61) ?wo17 ⟨V2.heap.size, 1, none⟩ ?wx17 (.agg SA) L17.out ?_); (case wg17 => rfl); (case wo17 => rfl); (case wx17 => rfl)) | ((with_reducible refine wpList_load_want (op := ⟨some 64, .load 27 (.tmp 63), _, _, _, _⟩) ?wg18 27 (.tmp 63) ?wo18 ⟨V2.heap.size, 18, none⟩ ?wx18 (.agg DA) L18.out ?_); (case wg18 => rfl); (case wo18 => rfl); (case wx18 => rfl)))
  clear L17 L18 L19
  refine (CM.out V5).mono ?_
  rintro e V6 ⟨x1, rfl, rx, hy⟩
  replace K := Lib.hid (K.out.trans (hy.mono K.out.size))
  replace NK := Lib.hid (NK.out.below hy NK.out.lt)
  replace O := Lib.hid (row_under O.out hy)
  have RX := Lib.hid (rx)
  clear rx
  obtain ⟨ax, cx, ex, -, -⟩ := rd_shape RX.out
  rw [HHL.out] at ex
  subst ex
  clear hy
  have q14 : (14 : Int) ≤ (n : Int) := by omega
  have q14b : ¬ n = 14 := by omega
  go_wp2_with (((with_reducible refine copy_into ?cg (.tmp 77) (.tmp 78) 22 22 ?co 5 Try.underlying22 Try.size5 g 14 n n w.heap.size (n - 14) (n - 14) 5 .u8 R H ax 20 cx ?cd ?cs O.out RX.out ?cf ?ce ?_); (case cg => rfl); (case co => rfl); (case cd => rfl); (case cs => rfl); (case cf => omega); (case ce => omega)))
  intro V7 oz gr
  clear q14 q14b
  replace K := Lib.hid (K.out.grown gr K.out.size (fun k e => by first | (cases e; done) | (cases e; first | exact Nat.le_refl _ | omega)))
  replace NK := Lib.hid (show Blk _ _ _ _ from (gr.block _ NK.out.lt (by first | (simp; done) | (simp; omega))).trans NK.out)
  have O := Lib.hid oz.out
  clear oz gr RX
  have L2 : Hid ((ov R H 14).length = n) := by show _ = _; rw [ov_length _ _ _ (by rw [HHL.out, HRL.out]; omega), HRL.out]
  have c38x := O.out.cellAt 38 (by omega)
  rw [nus_get _ _ _ (by have q := L2.out; omega)] at c38x
  have f38x := O.out.frozenAt 38
  generalize List.getD (ov R H 14) 38 0 = y38x at c38x
  have c39x := O.out.cellAt 39 (by omega)
  rw [nus_get _ _ _ (by have q := L2.out; omega)] at c39x
  have f39x := O.out.frozenAt 39
  generalize List.getD (ov R H 14) 39 0 = y39x at c39x
  have hst0 := O.out.stored 38 (.int .u8 ((0 : Nat) : Int))
  rw [nus_set] at hst0
  have hst0 : (V7.setCell ⟨g, 38, none⟩ (.int .u8 0)).ownsRow w.heap.size 5 1 (.slice (some ⟨g, 0, none⟩) n n) n (nus .u8 (((ov R H 14)).set 38 0)) ∧ V7.grownBy (V7.setCell ⟨g, 38, none⟩ (.int .u8 0)) (some g) := hst0
  have HST0 := Lib.hid hst0
  clear hst0
  have hst1 := HST0.out.1.stored 39 (.int .u8 ((8 : Nat) : Int))
  rw [nus_set] at hst1
  have hst1 : ((V7.setCell ⟨g, 38, none⟩ (.int .u8 0)).setCell ⟨g, 39, none⟩ (.int .u8 8)).ownsRow w.heap.size 5 1 (.slice (some ⟨g, 0, none⟩) n n) n (nus .u8 (((((ov R H 14)).set 38 0)).set 39 8)) ∧ (V7.setCell ⟨g, 38, none⟩ (.int .u8 0)).grownBy ((V7.setCell ⟨g, 38, none⟩ (.int .u8 0)).setCell ⟨g, 39, none⟩ (.int .u8 8)) (some g) := hst1
  have HST1 := Lib.hid hst1
  clear hst1
  go_upto_region 18 with fail
  have gr := (grownBy_trans HST0.out.2 HST1.out.2)
  replace K := Lib.hid (K.out.grown gr K.out.size (fun k e => by first | (cases e; done) | (cases e; first | exact Nat.le_refl _ | omega)))
  replace NK := Lib.hid (show Blk _ _ _ _ from (gr.block _ NK.out.lt (by first | (simp; done) | (simp; omega))).trans NK.out)
  replace O := Lib.hid HST1.out.1
  clear gr HST0 HST1 c38x f38x c39x f39x
  generalize ((V7.setCell ⟨g, 38, none⟩ (.int .u8 0)).setCell ⟨g, 39, none⟩ (.int .u8 8)) = V8 at *
  have RO := Rd.own O.out
  rw [show ((ov R H 14).set 38 0).set 39 8 = BF from HF.out] at RO
  have RO := Lib.hid RO
  clear O
  obtain ⟨ns, hns⟩ : ∃ x, x = n + 40 := ⟨_, rfl⟩
  have wsum : IntKind.i64.wrap ((n : Int) + 40) = (ns : Int) := by rw [IntKind.wrap_i64]; omega
  rw [← hns] at C1 C2 HFL
  have hcast : (n : Int) + 40 = (ns : Int) := by omega
  have hnsl : ns ≤ 65700 := by omega
  clear hns wn wm hn5 hn6 hgl
  by_cases hs : ns ≤ 65535
  · have d1 : decide ((65535 : Int) < (ns : Int)) = false := by rw [decide_eq_false_iff_not]; omega
    have d2 : decide (65535 < ns) = false := by rw [decide_eq_false_iff_not]; omega
    go_wp2_with fail
    refine (CO4.out V8).mono ?_
    rintro e V9 ⟨rfl, hy⟩
    replace K := Lib.hid (K.out.trans (hy.mono K.out.size))
    replace NK := Lib.hid (NK.out.below hy NK.out.lt)
    replace RO := Lib.hid (RO.out.below hy)
    clear hy
    go_wp2_with fail
    refine (CO6.out V9).mono ?_
    rintro e V10 ⟨rfl, hy⟩
    replace K := Lib.hid (K.out.trans (hy.mono K.out.size))
    replace NK := Lib.hid (NK.out.below hy NK.out.lt)
    replace RO := Lib.hid (RO.out.below hy)
    clear hy
    go_wp2_with fail
    refine (CD.out V10).mono ?_
    rintro e V11 ⟨rfl, hy⟩
    replace K := Lib.hid (K.out.trans (hy.mono K.out.size))
    replace NK := Lib.hid (NK.out.below hy NK.out.lt)
    replace RO := Lib.hid (RO.out.below hy)
    clear hy
    go_wp2_with (((with_reducible refine wpList_field_want (op := ⟨some 98, .field 33 (.tmp 97) 0, _, _, _, _⟩) ?wg20 33 (.tmp 97) 0 ?wo20 (.agg dc) (.agg A1) ?wx20 (F1.out _) ?_); (case wg20 => rfl); (case wo20 => rfl); (case wx20 => rfl)))
    refine (C1.out hs V11 _ RO.out).mono ?_
    rintro e V12 ⟨x2, rfl, rf, hy⟩
    replace K := Lib.hid (K.out.trans (hy.mono K.out.size))
    replace NK := Lib.hid (NK.out.below hy NK.out.lt)
    replace RO := Lib.hid (RO.out.below hy)
    obtain ⟨af, cf, ef, -, -⟩ := rd_shape rf
    rw [HFL.out hs] at ef
    subst ef
    clear rf
    clear hy
    go_wp2_with fail
    refine (HA.out V12).mono ?_
    rintro e V13 ⟨rfl, hy⟩
    replace K := Lib.hid (K.out.trans (hy.mono K.out.size))
    replace NK := Lib.hid (NK.out.below hy NK.out.lt)
    replace RO := Lib.hid (RO.out.below hy)
    clear hy
    go_wp2
    go_ret
    exact ⟨rfl, K.out⟩
  · have d1 : decide ((65535 : Int) < (ns : Int)) = true := by rw [decide_eq_true_iff]; omega
    have d2 : decide (65535 < ns) = true := by rw [decide_eq_true_iff]; omega
    go_wp2_with fail
    refine (CO4.out V8).mono ?_
    rintro e V9 ⟨rfl, hy⟩
    replace K := Lib.hid (K.out.trans (hy.mono K.out.size))
    replace NK := Lib.hid (NK.out.below hy NK.out.lt)
    replace RO := Lib.hid (RO.out.below hy)
    clear hy
    go_wp2_with fail
    refine (CO6.out V9).mono ?_
    rintro e V10 ⟨rfl, hy⟩
    replace K := Lib.hid (K.out.trans (hy.mono K.out.size))
    replace NK := Lib.hid (NK.out.below hy NK.out.lt)
    replace RO := Lib.hid (RO.out.below hy)
    clear hy
    go_wp2_with fail
    refine (CD.out V10).mono ?_
    rintro e V11 ⟨rfl, hy⟩
    replace K := Lib.hid (K.out.trans (hy.mono K.out.size))
    replace NK := Lib.hid (NK.out.below hy NK.out.lt)
    replace RO := Lib.hid (RO.out.below hy)
    clear hy
    go_wp2_with (((with_reducible refine wpList_field_want (op := ⟨some 98, .field 33 (.tmp 97) 0, _, _, _, _⟩) ?wg21 33 (.tmp 97) 0 ?wo21 (.agg dc) (.agg A1) ?wx21 (F1.out _) ?_); (case wg21 => rfl); (case wo21 => rfl); (case wx21 => rfl)))
    refine (C2.out (by omega) V11 _ RO.out).mono ?_
    rintro e V12 ⟨rfl, hy⟩
    replace K := Lib.hid (K.out.trans (hy.mono K.out.size))
    replace NK := Lib.hid (NK.out.below hy NK.out.lt)
    replace RO := Lib.hid (RO.out.below hy)
    clear hy
    go_wp2_with fail
    refine (HA.out V12).mono ?_
    rintro e V13 ⟨rfl, hy⟩
    replace K := Lib.hid (K.out.trans (hy.mono K.out.size))
    replace NK := Lib.hid (NK.out.below hy NK.out.lt)
    replace RO := Lib.hid (RO.out.below hy)
    clear hy
    go_wp2
    go_ret
    exact ⟨rfl, K.out⟩
set_option maxRecDepth 100000 in
set_option maxHeartbeats 8000000 in
theorem big_44 (pad : Int) (w : World) : Calls Try.prog 5 #[.bool false, .bool false, .int .i64 pad] w fun e w' => e = .returned (.bool true) ∧ Below w.heap.size w w' := by
  have K := Lib.hid (Below.refl w.heap.size w)
  have HA := Lib.hid (fun W => awake_any W)
  obtain ⟨r, hr⟩ : ∃ x : Nat, x = (pad % 5).toNat := ⟨_, rfl⟩
  have hre : pad % 5 = (r : Int) := by omega
  have hrl : r < 5 := by omega
  have CR := Lib.hid (fun W => round_any pad 5 W (by omega) (by omega))
  rw [hre] at CR
  obtain ⟨n, hn⟩ : ∃ x : Nat, x = 65513 + r := ⟨_, rfl⟩
  obtain ⟨m, hm⟩ : ∃ x : Nat, x = n - 34 := ⟨_, rfl⟩
  have hnm : n = 14 + hH false + m := by have : hH false = 20 := rfl; omega
  have CK := Lib.hid (fun W => flow_any 3 false true W)
  rw [show ((3 : Int) % 1073741824).toNat = 3 from by decide] at CK
  have CM := Lib.hid (fun W => four_made m (by omega) W)
  have hB := big false m (by omega) (by omega)
  have hBs := big_s false false m (by omega) (by omega)
  have hBl := big_lt false m
  have hBn := big_len false m (by omega)
  have hmade := fun R hR => big_made false m n (by omega) hnm R hR
  have s1 : (cellsA false (D16 1)).size = 17 := by rw [cellsA_size, D16_len]
  have F1 := Lib.hid (fun W => dip_addr (cellsA false (D16 1)) 8001 s1 W)
  have CD := Lib.hid (fun W => dip16 1 false W)
  rw [show ((1 : Int) % 200).toNat = 1 from by decide, show (8000 + ((1 : Int) % 1000).toNat) = 8001 from by decide] at CD
  have CO4 := Lib.hid (fun W => own_any false W)
  have CO6 := Lib.hid (fun W => own_any true W)
  have b1 := D16_lt 1 (by decide)
  have b5 := D16_lt 150 (by decide)
  have hin : inS (bigF false m) false = n + 20 := by rw [hBs, hnm]; rfl
  have hHl : (headB false (sV 3) dV 17 m).length = 20 := headB_len false (sV 3) dV 17 m (sV_len 3) dV_len
  have C1 := Lib.hid (fun (hs : n + 20 ≤ 65535) W z (h : Rd W z (nus .u8 (bigF false m))) => in_own z (bigF false m) (D16 1) false W h hBl (by omega) hB.rr (D16_len _) b1 (D16_v _ _) (by rw [hin]; exact hs))
  have C2 := Lib.hid (fun (hs : 65535 < n + 20) W z (h : Rd W z (nus .u8 (bigF false m))) => in_own_big z (bigF false m) (D16 1) false W h hBl (by omega) hB.rr (D16_len _) b1 (D16_v _ _) (by rw [hin]; exact hs))
  have hFl : n + 20 ≤ 65535 → (inn (bigF false m) false (D16 150) (D16 1)).length = n + 20 := fun hs => by
    rw [(was (bigF false m) false (D16 150) (D16 1) hBl hB.rr (D16_len _) (D16_len _) (D16_v _ _) (D16_v _ _) (by rw [hin]; exact hs)).len, hin]
  have HFL := Lib.hid hFl
  have zk := flow_size 3 false true
  have Ak := Lib.hid (flow_all 3 false true)
  have kp1 := Lib.hid (show ((flow 3 false true).toList.drop 1).take (cellsA false (sV 3)).toList.length = (cellsA false (sV 3)).toList from kcells_src _ _ _ _ _)
  have kp2 := Lib.hid (show ((flow 3 false true).toList.drop 18).take (cellsA false dV).toList.length = (cellsA false dV).toList from kcells_dst _ _ _ _ _ (by rw [cellsA_size, sV_len]))
  have kg0 := Lib.hid (show (flow 3 false true)[0]? = some (.int .u8 17) from rfl)
  have IS := Lib.hid (i24.trans (congrArg some (show (17 : Nat) = (cellsA false (sV 3)).toList.length from by rw [Array.length_toList, cellsA_size, sV_len])))
  have ID := Lib.hid (i24.trans (congrArg some (show (17 : Nat) = (cellsA false dV).toList.length from by rw [Array.length_toList, cellsA_size, dV_len])))
  have Yk : Hid ((flow 3 false true).size = Array.size (ZcK : Array Value)) := zk
  have Zk := Lib.hid (i42.trans (congrArg some zk.symm))
  have HM := Lib.hid hmade
  have HHL := Lib.hid hHl
  clear hB hBs hBl hBn hmade s1 b1 b5 hin hFl hr hre zk hHl hnm
  unfold adr at CM CO4 CO6 C1 C2
  generalize bigF false m = BF at *
  generalize inn BF false (D16 150) (D16 1) = FF at *
  generalize cellsA false (D16 1) = A1 at *
  generalize cellsA false (D16 150) = A4 at *
  generalize cellsA true (D16 150) = A6 at *
  generalize cellsA false (sV 3) = SA at *
  generalize cellsA false dV = DA at *
  generalize flow 3 false true = kc at *
  generalize dcells A1 8001 = dc at *
  generalize headB false (sV 3) dV 17 m = H at *
  have wn : (65515 : Int) + (r : Int) - 2 = (n : Int) := by omega
  have wm : (n : Int) - 14 - 20 = (m : Int) := by omega
  have hn5 : 60000 ≤ n ∧ n ≤ 65600 := by omega
  obtain ⟨hn5, hn6⟩ := hn5
  clear hn hm
  go_enter Try.func5, Try.ntmps5
  go_wp2_with fail
  refine (CR.out _).mono ?_
  rintro e V1 ⟨rfl, rfl⟩
  go_wp2_with fail
  refine (CK.out w).mono ?_
  rintro e V2 ⟨rfl, hy⟩
  replace K := Lib.hid (K.out.trans (hy.mono K.out.size))
  clear hy
  go_wp2_with (((with_reducible refine wpList_blk_store (op := ⟨none, .store 30 (.tmp 9) (.tmp 27), _, _, _, _⟩) ?sg22 30 (.tmp 9) (.tmp 27) ?so22 (V2.heap.size) kc ?sx22 ?sy22 (Blk.new V2 30 ZcK) Yk.out Zk.out Ak.out ?_); (case sg22 => rfl); (case so22 => rfl); (case sx22 => rfl); (case sy22 => rfl)))
  intro V3 hA hF hB
  have hy := ((Below.refl V2.heap.size V2).alloc (Nat.le_refl _) (.cells ZcK 30)).trans (hB _ (Nat.le_refl _))
  replace K := Lib.hid (K.out.trans (hy.mono K.out.size))
  have NK := Lib.hid hA
  clear hA hF hB hy
  have qNK := NK.out.lt
  obtain ⟨g, hg⟩ : ∃ g, g = V3.heap.size := ⟨_, rfl⟩
  have hgl : w.heap.size ≤ g := by rw [hg]; exact K.out.size
  rw [← hg] at qNK
  obtain ⟨i0, hi, hz0, hz1, hz2⟩ := info_parts Try.info5
  have hbase : w.heap.size ≤ V3.heap.size := K.out.size
  go_wp2_with ((at_make; refine wpList_make_full _ rfl _ _ 22 rfl w.heap.size 5 i0 (.int .u8 0) 1 Try.underlying22 hi hz0 hz1 .i64 .i64 _ _ n rfl rfl ?mk23a ?mk23b ?mk23c ?mk23d hbase ?_))
  case mk23a => omega
  case mk23b => omega
  case mk23c => rw [hz2]; omega
  case mk23d => unfold maxLen; omega
  intro V4 o1 g1
  rw [toList_madeCells_one, show List.replicate n (Value.int .u8 0) = nus .u8 (List.replicate n 0) from by simp [nus]] at o1
  replace K := Lib.hid (K.out.grown g1 K.out.size (fun k e => by first | (cases e; done) | (cases e; first | exact Nat.le_refl _ | omega)))
  replace NK := Lib.hid (show Blk _ _ _ _ from (g1.block _ NK.out.lt (by first | (simp; done) | (simp; omega))).trans NK.out)
  have O := Lib.hid (show V4.ownsRow w.heap.size 5 1 _ n (nus .u8 (List.replicate n 0)) from o1)
  clear o1 g1 hi hz0 hz1 hz2 hbase
  rw [← hg] at O ⊢
  clear hg
  have hnm2 : n ≤ maxLen := by simp [maxLen]; omega
  have L0 : Hid ((List.replicate n 0).length = n) := by show _ = _; simp
  have c12x := O.out.cellAt 12 (by omega)
  rw [nus_get _ _ _ (by have q := L0.out; omega)] at c12x
  have f12x := O.out.frozenAt 12
  generalize List.getD (List.replicate n 0) 12 0 = y12x at c12x
  have c13x := O.out.cellAt 13 (by omega)
  rw [nus_get _ _ _ (by have q := L0.out; omega)] at c13x
  have f13x := O.out.frozenAt 13
  generalize List.getD (List.replicate n 0) 13 0 = y13x at c13x
  have hst0 := O.out.stored 12 (.int .u8 ((8 : Nat) : Int))
  rw [nus_set] at hst0
  have hst0 : (V4.setCell ⟨g, 12, none⟩ (.int .u8 8)).ownsRow w.heap.size 5 1 (.slice (some ⟨g, 0, none⟩) n n) n (nus .u8 (((List.replicate n 0)).set 12 8)) ∧ V4.grownBy (V4.setCell ⟨g, 12, none⟩ (.int .u8 8)) (some g) := hst0
  have HST0 := Lib.hid hst0
  clear hst0
  have hst1 := HST0.out.1.stored 13 (.int .u8 ((0 : Nat) : Int))
  rw [nus_set] at hst1
  have hst1 : ((V4.setCell ⟨g, 12, none⟩ (.int .u8 8)).setCell ⟨g, 13, none⟩ (.int .u8 0)).ownsRow w.heap.size 5 1 (.slice (some ⟨g, 0, none⟩) n n) n (nus .u8 (((((List.replicate n 0)).set 12 8)).set 13 0)) ∧ (V4.setCell ⟨g, 12, none⟩ (.int .u8 8)).grownBy ((V4.setCell ⟨g, 12, none⟩ (.int .u8 8)).setCell ⟨g, 13, none⟩ (.int .u8 0)) (some g) := hst1
  have HST1 := Lib.hid hst1
  clear hst1
  go_upto_region 11 with fail
  have gr := (grownBy_trans HST0.out.2 HST1.out.2)
  replace K := Lib.hid (K.out.grown gr K.out.size (fun k e => by first | (cases e; done) | (cases e; first | exact Nat.le_refl _ | omega)))
  replace NK := Lib.hid (show Blk _ _ _ _ from (gr.block _ NK.out.lt (by first | (simp; done) | (simp; omega))).trans NK.out)
  replace O := Lib.hid HST1.out.1
  clear gr HST0 HST1 c12x f12x c13x f13x
  generalize ((V4.setCell ⟨g, 12, none⟩ (.int .u8 8)).setCell ⟨g, 13, none⟩ (.int .u8 0)) = V5 at *
  have hF := HM.out ((((((List.replicate n 0)).set 12 8)).set 13 0)) rfl
  have hRL : ((((((List.replicate n 0)).set 12 8)).set 13 0)).length = n := by simp
  generalize (((((List.replicate n 0)).set 12 8)).set 13 0) = R at *
  have HF := Lib.hid hF
  have HRL := Lib.hid hRL
  clear hF hRL HM
  have L24 : (loadVar 27 ⟨V2.heap.size, 1, none⟩).run Try.prog V5 = .ok (.agg SA) V5 := by have h := run_part_load (P := Try.prog) 27 1 SA.toList _ NK.out kp1.out Try.underlying27 rfl IS.out; rwa [Array.toArray_toList] at h
  replace L24 := Lib.hid L24
  have L25 : (loadVar 27 ⟨V2.heap.size, 18, none⟩).run Try.prog V5 = .ok (.agg DA) V5 := by have h := run_part_load (P := Try.prog) 27 18 DA.toList _ NK.out kp2.out Try.underlying27 rfl ID.out; rwa [Array.toArray_toList] at h
  replace L25 := Lib.hid L25
  have L26 := (NK.out.cell 0).trans kg0.out
  go_wp2_with (first | ((with_reducible refine wpList_load_want (op := ⟨some 62, .load 27 (.tmp 61), _, _, _, _⟩) ?wg24 27 (.tmp 61) ?wo24 ⟨V2.heap.size, 1, none⟩ ?wx24 (.agg SA) L24.out ?_); (case wg24 => rfl); (case wo24 => rfl); (case wx24 => rfl)) | ((with_reducible refine wpList_load_want (op := ⟨some 64, .load 27 (.tmp 63), _, _, _, _⟩) ?wg25 27 (.tmp 63) ?wo25 ⟨V2.heap.size, 18, none⟩ ?wx25 (.agg DA) L25.out ?_); (case wg25 => rfl); (case wo25 => rfl); (case wx25 => rfl)))
  clear L24 L25 L26
  refine (CM.out V5).mono ?_
  rintro e V6 ⟨x1, rfl, rx, hy⟩
  replace K := Lib.hid (K.out.trans (hy.mono K.out.size))
  replace NK := Lib.hid (NK.out.below hy NK.out.lt)
  replace O := Lib.hid (row_under O.out hy)
  have RX := Lib.hid (rx)
  clear rx
  obtain ⟨ax, cx, ex, -, -⟩ := rd_shape RX.out
  rw [HHL.out] at ex
  subst ex
  clear hy
  have q14 : (14 : Int) ≤ (n : Int) := by omega
  have q14b : ¬ n = 14 := by omega
  go_wp2_with (((with_reducible refine copy_into ?cg (.tmp 77) (.tmp 78) 22 22 ?co 5 Try.underlying22 Try.size5 g 14 n n w.heap.size (n - 14) (n - 14) 5 .u8 R H ax 20 cx ?cd ?cs O.out RX.out ?cf ?ce ?_); (case cg => rfl); (case co => rfl); (case cd => rfl); (case cs => rfl); (case cf => omega); (case ce => omega)))
  intro V7 oz gr
  clear q14 q14b
  replace K := Lib.hid (K.out.grown gr K.out.size (fun k e => by first | (cases e; done) | (cases e; first | exact Nat.le_refl _ | omega)))
  replace NK := Lib.hid (show Blk _ _ _ _ from (gr.block _ NK.out.lt (by first | (simp; done) | (simp; omega))).trans NK.out)
  have O := Lib.hid oz.out
  clear oz gr RX
  have L2 : Hid ((ov R H 14).length = n) := by show _ = _; rw [ov_length _ _ _ (by rw [HHL.out, HRL.out]; omega), HRL.out]
  have c38x := O.out.cellAt 38 (by omega)
  rw [nus_get _ _ _ (by have q := L2.out; omega)] at c38x
  have f38x := O.out.frozenAt 38
  generalize List.getD (ov R H 14) 38 0 = y38x at c38x
  have c39x := O.out.cellAt 39 (by omega)
  rw [nus_get _ _ _ (by have q := L2.out; omega)] at c39x
  have f39x := O.out.frozenAt 39
  generalize List.getD (ov R H 14) 39 0 = y39x at c39x
  have hst0 := O.out.stored 38 (.int .u8 ((0 : Nat) : Int))
  rw [nus_set] at hst0
  have hst0 : (V7.setCell ⟨g, 38, none⟩ (.int .u8 0)).ownsRow w.heap.size 5 1 (.slice (some ⟨g, 0, none⟩) n n) n (nus .u8 (((ov R H 14)).set 38 0)) ∧ V7.grownBy (V7.setCell ⟨g, 38, none⟩ (.int .u8 0)) (some g) := hst0
  have HST0 := Lib.hid hst0
  clear hst0
  have hst1 := HST0.out.1.stored 39 (.int .u8 ((8 : Nat) : Int))
  rw [nus_set] at hst1
  have hst1 : ((V7.setCell ⟨g, 38, none⟩ (.int .u8 0)).setCell ⟨g, 39, none⟩ (.int .u8 8)).ownsRow w.heap.size 5 1 (.slice (some ⟨g, 0, none⟩) n n) n (nus .u8 (((((ov R H 14)).set 38 0)).set 39 8)) ∧ (V7.setCell ⟨g, 38, none⟩ (.int .u8 0)).grownBy ((V7.setCell ⟨g, 38, none⟩ (.int .u8 0)).setCell ⟨g, 39, none⟩ (.int .u8 8)) (some g) := hst1
  have HST1 := Lib.hid hst1
  clear hst1
  go_upto_region 18 with fail
  have gr := (grownBy_trans HST0.out.2 HST1.out.2)
  replace K := Lib.hid (K.out.grown gr K.out.size (fun k e => by first | (cases e; done) | (cases e; first | exact Nat.le_refl _ | omega)))
  replace NK := Lib.hid (show Blk _ _ _ _ from (gr.block _ NK.out.lt (by first | (simp; done) | (simp; omega))).trans NK.out)
  replace O := Lib.hid HST1.out.1
  clear gr HST0 HST1 c38x f38x c39x f39x
  generalize ((V7.setCell ⟨g, 38, none⟩ (.int .u8 0)).setCell ⟨g, 39, none⟩ (.int .u8 8)) = V8 at *
  have RO := Rd.own O.out
  rw [show ((ov R H 14).set 38 0).set 39 8 = BF from HF.out] at RO
  have RO := Lib.hid RO
  clear O
  obtain ⟨ns, hns⟩ : ∃ x, x = n + 20 := ⟨_, rfl⟩
  have wsum : IntKind.i64.wrap ((n : Int) + 20) = (ns : Int) := by rw [IntKind.wrap_i64]; omega
  rw [← hns] at C1 C2 HFL
  have hcast : (n : Int) + 20 = (ns : Int) := by omega
  have hnsl : ns ≤ 65700 := by omega
  clear hns wn wm hn5 hn6 hgl
  by_cases hs : ns ≤ 65535
  · have d1 : decide ((65535 : Int) < (ns : Int)) = false := by rw [decide_eq_false_iff_not]; omega
    have d2 : decide (65535 < ns) = false := by rw [decide_eq_false_iff_not]; omega
    go_wp2_with fail
    refine (CO4.out V8).mono ?_
    rintro e V9 ⟨rfl, hy⟩
    replace K := Lib.hid (K.out.trans (hy.mono K.out.size))
    replace NK := Lib.hid (NK.out.below hy NK.out.lt)
    replace RO := Lib.hid (RO.out.below hy)
    clear hy
    go_wp2_with fail
    refine (CO6.out V9).mono ?_
    rintro e V10 ⟨rfl, hy⟩
    replace K := Lib.hid (K.out.trans (hy.mono K.out.size))
    replace NK := Lib.hid (NK.out.below hy NK.out.lt)
    replace RO := Lib.hid (RO.out.below hy)
    clear hy
    go_wp2_with fail
    refine (CD.out V10).mono ?_
    rintro e V11 ⟨rfl, hy⟩
    replace K := Lib.hid (K.out.trans (hy.mono K.out.size))
    replace NK := Lib.hid (NK.out.below hy NK.out.lt)
    replace RO := Lib.hid (RO.out.below hy)
    clear hy
    go_wp2_with (((with_reducible refine wpList_field_want (op := ⟨some 98, .field 33 (.tmp 97) 0, _, _, _, _⟩) ?wg27 33 (.tmp 97) 0 ?wo27 (.agg dc) (.agg A1) ?wx27 (F1.out _) ?_); (case wg27 => rfl); (case wo27 => rfl); (case wx27 => rfl)))
    refine (C1.out hs V11 _ RO.out).mono ?_
    rintro e V12 ⟨x2, rfl, rf, hy⟩
    replace K := Lib.hid (K.out.trans (hy.mono K.out.size))
    replace NK := Lib.hid (NK.out.below hy NK.out.lt)
    replace RO := Lib.hid (RO.out.below hy)
    obtain ⟨af, cf, ef, -, -⟩ := rd_shape rf
    rw [HFL.out hs] at ef
    subst ef
    clear rf
    clear hy
    go_wp2_with fail
    refine (HA.out V12).mono ?_
    rintro e V13 ⟨rfl, hy⟩
    replace K := Lib.hid (K.out.trans (hy.mono K.out.size))
    replace NK := Lib.hid (NK.out.below hy NK.out.lt)
    replace RO := Lib.hid (RO.out.below hy)
    clear hy
    go_wp2
    go_ret
    exact ⟨rfl, K.out⟩
  · have d1 : decide ((65535 : Int) < (ns : Int)) = true := by rw [decide_eq_true_iff]; omega
    have d2 : decide (65535 < ns) = true := by rw [decide_eq_true_iff]; omega
    go_wp2_with fail
    refine (CO4.out V8).mono ?_
    rintro e V9 ⟨rfl, hy⟩
    replace K := Lib.hid (K.out.trans (hy.mono K.out.size))
    replace NK := Lib.hid (NK.out.below hy NK.out.lt)
    replace RO := Lib.hid (RO.out.below hy)
    clear hy
    go_wp2_with fail
    refine (CO6.out V9).mono ?_
    rintro e V10 ⟨rfl, hy⟩
    replace K := Lib.hid (K.out.trans (hy.mono K.out.size))
    replace NK := Lib.hid (NK.out.below hy NK.out.lt)
    replace RO := Lib.hid (RO.out.below hy)
    clear hy
    go_wp2_with fail
    refine (CD.out V10).mono ?_
    rintro e V11 ⟨rfl, hy⟩
    replace K := Lib.hid (K.out.trans (hy.mono K.out.size))
    replace NK := Lib.hid (NK.out.below hy NK.out.lt)
    replace RO := Lib.hid (RO.out.below hy)
    clear hy
    go_wp2_with (((with_reducible refine wpList_field_want (op := ⟨some 98, .field 33 (.tmp 97) 0, _, _, _, _⟩) ?wg28 33 (.tmp 97) 0 ?wo28 (.agg dc) (.agg A1) ?wx28 (F1.out _) ?_); (case wg28 => rfl); (case wo28 => rfl); (case wx28 => rfl)))
    refine (C2.out (by omega) V11 _ RO.out).mono ?_
    rintro e V12 ⟨rfl, hy⟩
    replace K := Lib.hid (K.out.trans (hy.mono K.out.size))
    replace NK := Lib.hid (NK.out.below hy NK.out.lt)
    replace RO := Lib.hid (RO.out.below hy)
    clear hy
    go_wp2_with fail
    refine (HA.out V12).mono ?_
    rintro e V13 ⟨rfl, hy⟩
    replace K := Lib.hid (K.out.trans (hy.mono K.out.size))
    replace NK := Lib.hid (NK.out.below hy NK.out.lt)
    replace RO := Lib.hid (RO.out.below hy)
    clear hy
    go_wp2
    go_ret
    exact ⟨rfl, K.out⟩
theorem big_walk (v6 d6 : Bool) (pad : Int) (w : World) : Calls Try.prog 5 #[.bool v6, .bool d6, .int .i64 pad] w fun e w' => e = .returned (.bool true) ∧ Below w.heap.size w w' := by
  cases v6 <;> cases d6
  · exact big_44 pad w
  · exact big_46 pad w
  · exact big_64 pad w
  · exact big_66 pad w
end Go.Proofs.Ytnpibdjfafpegaa
