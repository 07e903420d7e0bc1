/- Texts that the walks of this seat lean on, put together: each has its own remark below. -/
import Derived.ProofKit
import Derived.OpenShut
import Derived.ChangeSame
import Derived.Deep.DeepHandedRow
import Derived.LaidSub
import Derived.Test.YtnfanenaighflaaM01
import Derived.Test.YtnfanenaighflaaM07

/- The walk of SixTells. -/
namespace Go.Proofs.Ytnfanenaighflaa
open Go.RowKit

theorem hd6_get (zs : List Nat) : ∃ l p : Nat, (hd6 zs)[0]? = some (.int .i64 (l : Int)) ∧ (hd6 zs)[1]? = some (.int .u8 (p : Int)) ∧ (rd6 zs)[1]? = some (.int .i64 (l : Int)) ∧ (rd6 zs)[2]? = some (.int .u8 (p : Int)) ∧
    ∃ S D : Array Value, S.size = 17 ∧ D.size = 17 ∧ ((hd6 zs).toList.drop 2).take S.toList.length = S.toList ∧ ((hd6 zs).toList.drop 19).take D.toList.length = D.toList ∧ ((rd6 zs).toList.drop 3).take S.toList.length = S.toList ∧ ((rd6 zs).toList.drop 20).take D.toList.length = D.toList ∧
      ((∀ c ∈ zs, c < 256) → ∀ W, (Op.equalIn 10000 25 (.agg S) (.agg S)).run Try.prog W = .ok true W) ∧ ((∀ c ∈ zs, c < 256) → ∀ W, (Op.equalIn 10000 25 (.agg D) (.agg D)).run Try.prog W = .ok true W) := by
  unfold hd6 rd6
  by_cases h : f6 zs = 0
  · rw [if_pos h, if_pos h]
    obtain ⟨h40, -, hl, -⟩ := f6_yes zs h
    obtain ⟨sS, sD⟩ := ad_size zs h40
    have l1 : ((zs.drop 8).take 16).length = 16 := by simp; omega
    have l2 : ((zs.drop 24).take 16).length = 16 := by simp; omega
    exact ⟨40 + u2 zs 4, zs.getD 6 0, rfl, rfl, rfl, rfl, srcA zs, dstA zs, sS, sD, scells_src _ _ _ _, scells_dst _ _ _ _ sS, rcells_src _ _ _ _ _, rcells_dst _ _ _ _ _ sS,
      fun hb W => eq_cells true _ l1 (fun n hn => hb n (List.mem_of_mem_drop (List.mem_of_mem_take hn))) _ rfl W, fun hb W => eq_cells true _ l2 (fun n hn => hb n (List.mem_of_mem_drop (List.mem_of_mem_take hn))) _ rfl W⟩
  · rw [if_neg h, if_neg h]
    exact ⟨0, 0, rfl, rfl, rfl, rfl, z17, z17, rfl, rfl, rfl, rfl, rfl, rfl, fun _ W => eq_cells false _ rfl (by decide) _ rfl W, fun _ W => eq_cells false _ rfl (by decide) _ rfl W⟩

set_option maxRecDepth 100000 in
set_option maxHeartbeats 8000000 in
theorem tells_walk (v : Value) (zs : List Nat) (six1 six2 : Bool) (tb sb : List Nat) (p : Nat) (n : Int) (w : World) (hr : Rd w v (nus .u8 zs)) (hb : ∀ c ∈ zs, c < 256)
    (hl1 : tb.length = 16) (hl2 : sb.length = 16) :
    Calls Try.prog 3 #[v, adr six1 tb, adr six2 sb, .int .u8 (p : Int), .int .i64 n] w fun e w' => e = .returned (.bool true) ∧ Below w.heap.size w w' := by
  have K := Lib.hid (Below.refl w.heap.size w)
  have HR := Lib.hid hr
  obtain ⟨a, cap, rfl, hlc, hlm⟩ := rd_shape hr
  have CV1 := Lib.hid (fun W => ref_adr six1 tb hl1 W)
  have CV2 := Lib.hid (fun W => ref_adr six2 sb hl2 W)
  have CR := Lib.hid (fun W (h : Rd W (.slice a zs.length cap) (nus .u8 zs)) => read_any _ zs W h hb)
  have CF := Lib.hid (fun W (h : Rd W (.slice a zs.length cap) (nus .u8 zs)) => rsix_any _ zs W h hb)
  have CM := Lib.hid (fun W => make_any six2 six1 sb tb p n W hl2 hl1)
  have CN := Lib.hid (fun W => rmake_any six2 six1 sb tb p n W hl2 hl1)
  have CD := Lib.hid (fun W (h : Rd W (.slice a zs.length cap) (nus .u8 zs)) (hz : zs.length ≤ 2000) => dest_any _ zs six1 tb W h hb (by omega) hl1)
  have CE := Lib.hid (fun W (h : Rd W (.slice a zs.length cap) (nus .u8 zs)) (hz : zs.length ≤ 2000) => rdest_any _ zs six1 tb W h hb hz hl1)
  obtain ⟨l, q, g0, g1, r1, r2, S, D, zS, zD, p1, p2, p3, p4, qS, qD⟩ := hd6_get zs
  have qS := qS hb
  have qD := qD hb
  unfold adr at CV1 CV2 CM CN CD CE ⊢
  have z1 : (cellsA six1 tb).size = 17 := by rw [cellsA_size, hl1]
  have z2 : (cellsA six2 sb).size = 17 := by rw [cellsA_size, hl2]
  have I1 := Lib.hid (i24.trans (congrArg some z1.symm))
  have I2 := Lib.hid (i24.trans (congrArg some z2.symm))
  have IS := Lib.hid (i24.trans (congrArg some (show (17 : Nat) = S.toList.length by simp [zS])))
  have ID := Lib.hid (i24.trans (congrArg some (show (17 : Nat) = D.toList.length by simp [zD])))
  have zh := hd6_size zs
  have zr := rd6_size zs
  have Zh := Lib.hid (i36.trans (congrArg some zh.symm))
  have Yh : Hid ((hd6 zs).size = Array.size (#[Value.int .i64 0, .int .u8 0, .bool false, .int .u8 0, .int .u8 0, .int .u8 0, .int .u8 0, .int .u8 0, .int .u8 0, .int .u8 0, .int .u8 0, .int .u8 0, .int .u8 0, .int .u8 0, .int .u8 0, .int .u8 0, .int .u8 0, .int .u8 0, .int .u8 0, .bool false, .int .u8 0, .int .u8 0, .int .u8 0, .int .u8 0, .int .u8 0, .int .u8 0, .int .u8 0, .int .u8 0, .int .u8 0, .int .u8 0, .int .u8 0, .int .u8 0, .int .u8 0, .int .u8 0, .int .u8 0, .int .u8 0] : Array Value)) := zh
  have Ah := Lib.hid (hd6_all zs)
  have Zr := Lib.hid (i37.trans (congrArg some zr.symm))
  have Yr : Hid ((rd6 zs).size = Array.size (#[Value.int .i64 0, .int .i64 0, .int .u8 0, .bool false, .int .u8 0, .int .u8 0, .int .u8 0, .int .u8 0, .int .u8 0, .int .u8 0, .int .u8 0, .int .u8 0, .int .u8 0, .int .u8 0, .int .u8 0, .int .u8 0, .int .u8 0, .int .u8 0, .int .u8 0, .int .u8 0, .bool false, .int .u8 0, .int .u8 0, .int .u8 0, .int .u8 0, .int .u8 0, .int .u8 0, .int .u8 0, .int .u8 0, .int .u8 0, .int .u8 0, .int .u8 0, .int .u8 0, .int .u8 0, .int .u8 0, .int .u8 0, .int .u8 0] : Array Value)) := zr
  have Ar := Lib.hid (rd6_all zs)
  have hf := f6_lt zs
  generalize dOut zs six1 tb = DO at *
  generalize mOut six2 six1 sb tb p n = MO at *
  generalize mkOk six2 six1 n = mb at *
  generalize vldA six1 tb = q1 at *
  generalize vldA six2 sb = q2 at *
  generalize cellsA six1 tb = c1 at *
  generalize cellsA six2 sb = c2 at *
  generalize hd6 zs = hdc at *
  generalize rd6 zs = rdc at *
  generalize f6 zs = fr at *
  have G0 := Lib.hid g0
  have G1 := Lib.hid g1
  have R1 := Lib.hid r1
  have R2 := Lib.hid r2
  have P1 := Lib.hid p1
  have P2 := Lib.hid p2
  have P3 := Lib.hid p3
  have P4 := Lib.hid p4
  have QS := Lib.hid qS
  have QD := Lib.hid qD
  clear hr hb hl1 hl2 z1 z2 zh zr g0 g1 r1 r2 p1 p2 p3 p4 qS qD zS zD
  generalize zs.length = len at *
  unfold maxLen at hlm
  go_enter Try.func3, Try.ntmps3
  have hal := (Below.refl w.heap.size w).alloc (Nat.le_refl _) (.cells c1 25)
  replace K := Lib.hid (K.out.trans (hal.mono K.out.size))
  have N1 := Lib.hid (Blk.new w 25 c1)
  clear hal
  have hal := (Below.refl (w.alloc (.cells c1 25)).heap.size (w.alloc (.cells c1 25))).alloc (Nat.le_refl _) (.cells c2 25)
  replace K := Lib.hid (K.out.trans (hal.mono K.out.size))
  replace N1 := Lib.hid (N1.out.below hal N1.out.lt)
  have N2q := Blk.new (w.alloc (.cells c1 25)) 25 c2
  simp only [World.size_alloc] at N2q
  have N2 := Lib.hid N2q
  clear N2q
  clear hal
  by_cases hlen : 2000 < len
  · go_wp2_with fail
    have hzV1 : Hid (((w.alloc (.cells c1 25)).alloc (.cells c2 25)).heap.size = w.heap.size + 1 + 1) := by show _ = _; simp only [World.size_alloc]
    generalize ((w.alloc (.cells c1 25)).alloc (.cells c2 25)) = V1 at *
    refine (awake_any _).mono ?_
    rintro e V2 ⟨rfl, hy⟩
    replace K := Lib.hid (K.out.trans (hy.mono K.out.size))
    replace N1 := Lib.hid (N1.out.below hy N1.out.lt)
    replace N2 := Lib.hid (N2.out.below hy N2.out.lt)
    clear hy
    go_wp2
    go_ret
    exact ⟨rfl, K.out⟩
  have hdl : decide ((2000 : Int) < (len : Int)) = false := decide_eq_false (by omega)
  have HLn := Lib.hid (show len ≤ 2000 by omega)
  clear hlen
  have L1 : (loadVar 25 ⟨w.heap.size, 0, none⟩).run Try.prog ((w.alloc (.cells c1 25)).alloc (.cells c2 25)) = .ok (.agg c1) ((w.alloc (.cells c1 25)).alloc (.cells c2 25)) := run_blk_load (P := Try.prog) 25 (w.heap.size) _ N1.out Try.underlying25 rfl I1.out
  replace L1 := Lib.hid L1
  go_wp2_with (((with_reducible refine wpList_load_want (op := ⟨some 23, .load 25 (.tmp 6), _, _, _, _⟩) ?wg1 25 (.tmp 6) ?wo1 ⟨w.heap.size, 0, none⟩ ?wx1 (.agg c1) L1.out ?_); (case wg1 => rfl); (case wo1 => rfl); (case wx1 => rfl)))
  clear L1
  have hzV1 : Hid (((w.alloc (.cells c1 25)).alloc (.cells c2 25)).heap.size = w.heap.size + 1 + 1) := by show _ = _; simp only [World.size_alloc]
  generalize ((w.alloc (.cells c1 25)).alloc (.cells c2 25)) = V1 at *
  refine (CV1.out _).mono ?_
  rintro e V2 ⟨rfl, hy⟩
  replace K := Lib.hid (K.out.trans (hy.mono K.out.size))
  replace N1 := Lib.hid (N1.out.below hy N1.out.lt)
  replace N2 := Lib.hid (N2.out.below hy N2.out.lt)
  clear hy
  cases q1 with
  | false =>
    go_wp2_with fail
    refine (awake_any _).mono ?_
    rintro e V3 ⟨rfl, hy⟩
    replace K := Lib.hid (K.out.trans (hy.mono K.out.size))
    replace N1 := Lib.hid (N1.out.below hy N1.out.lt)
    replace N2 := Lib.hid (N2.out.below hy N2.out.lt)
    clear hy
    go_wp2
    go_ret
    exact ⟨rfl, K.out⟩
  | true =>
  have L2 : (loadVar 25 ⟨w.heap.size + 1, 0, none⟩).run Try.prog V2 = .ok (.agg c2) V2 := run_blk_load (P := Try.prog) 25 (w.heap.size + 1) _ N2.out Try.underlying25 rfl I2.out
  replace L2 := Lib.hid L2
  go_wp2_with (((with_reducible refine wpList_load_want (op := ⟨some 28, .load 25 (.tmp 7), _, _, _, _⟩) ?wg2 25 (.tmp 7) ?wo2 ⟨w.heap.size + 1, 0, none⟩ ?wx2 (.agg c2) L2.out ?_); (case wg2 => rfl); (case wo2 => rfl); (case wx2 => rfl)))
  clear L2
  refine (CV2.out _).mono ?_
  rintro e V3 ⟨rfl, hy⟩
  replace K := Lib.hid (K.out.trans (hy.mono K.out.size))
  replace N1 := Lib.hid (N1.out.below hy N1.out.lt)
  replace N2 := Lib.hid (N2.out.below hy N2.out.lt)
  clear hy
  cases q2 with
  | false =>
    go_wp2_with fail
    refine (awake_any _).mono ?_
    rintro e V4 ⟨rfl, hy⟩
    replace K := Lib.hid (K.out.trans (hy.mono K.out.size))
    replace N1 := Lib.hid (N1.out.below hy N1.out.lt)
    replace N2 := Lib.hid (N2.out.below hy N2.out.lt)
    clear hy
    go_wp2
    go_ret
    exact ⟨rfl, K.out⟩
  | true =>
  go_wp2_with fail
  refine (CR.out _ (HR.out.below K.out)).mono ?_
  rintro e V4 ⟨rfl, hy⟩
  replace K := Lib.hid (K.out.trans (hy.mono K.out.size))
  replace N1 := Lib.hid (N1.out.below hy N1.out.lt)
  replace N2 := Lib.hid (N2.out.below hy N2.out.lt)
  clear hy
  go_wp2_with (((with_reducible refine wpList_blk_store (op := ⟨none, .store 29 (.tmp 11) (.tmp 36), _, _, _, _⟩) ?sg3 29 (.tmp 11) (.tmp 36) ?so3 (V4.heap.size) hdc ?sx3 ?sy3 (Blk.new V4 29 #[Value.int .i64 0, .int .u8 0, .bool false, .int .u8 0, .int .u8 0, .int .u8 0, .int .u8 0, .int .u8 0, .int .u8 0, .int .u8 0, .int .u8 0, .int .u8 0, .int .u8 0, .int .u8 0, .int .u8 0, .int .u8 0, .int .u8 0, .int .u8 0, .int .u8 0, .bool false, .int .u8 0, .int .u8 0, .int .u8 0, .int .u8 0, .int .u8 0, .int .u8 0, .int .u8 0, .int .u8 0, .int .u8 0, .int .u8 0, .int .u8 0, .int .u8 0, .int .u8 0, .int .u8 0, .int .u8 0, .int .u8 0]) Yh.out Zh.out Ah.out ?_); (case sg3 => rfl); (case so3 => rfl); (case sx3 => rfl); (case sy3 => rfl)))
  have qN1NH : w.heap.size < V4.heap.size := N1.out.lt
  have qN2NH : w.heap.size + 1 < V4.heap.size := N2.out.lt
  intro V5 hA hF hB
  have hy := ((Below.refl V4.heap.size V4).alloc (Nat.le_refl _) (.cells #[Value.int .i64 0, .int .u8 0, .bool false, .int .u8 0, .int .u8 0, .int .u8 0, .int .u8 0, .int .u8 0, .int .u8 0, .int .u8 0, .int .u8 0, .int .u8 0, .int .u8 0, .int .u8 0, .int .u8 0, .int .u8 0, .int .u8 0, .int .u8 0, .int .u8 0, .bool false, .int .u8 0, .int .u8 0, .int .u8 0, .int .u8 0, .int .u8 0, .int .u8 0, .int .u8 0, .int .u8 0, .int .u8 0, .int .u8 0, .int .u8 0, .int .u8 0, .int .u8 0, .int .u8 0, .int .u8 0, .int .u8 0] 29)).trans (hB _ (Nat.le_refl _))
  replace K := Lib.hid (K.out.trans (hy.mono K.out.size))
  replace N1 := Lib.hid (N1.out.below hy N1.out.lt)
  replace N2 := Lib.hid (N2.out.below hy N2.out.lt)
  have NH := Lib.hid hA
  clear hA hF hB hy
  go_wp2_with fail
  refine (CF.out _ (HR.out.below K.out)).mono ?_
  rintro e V6 ⟨rfl, hy⟩
  replace K := Lib.hid (K.out.trans (hy.mono K.out.size))
  replace N1 := Lib.hid (N1.out.below hy N1.out.lt)
  replace N2 := Lib.hid (N2.out.below hy N2.out.lt)
  replace NH := Lib.hid (NH.out.below hy NH.out.lt)
  clear hy
  go_wp2_with (((with_reducible refine wpList_blk_store (op := ⟨none, .store 33 (.tmp 13) (.tmp 41), _, _, _, _⟩) ?sg4 33 (.tmp 13) (.tmp 41) ?so4 (V6.heap.size) rdc ?sx4 ?sy4 (Blk.new V6 33 #[Value.int .i64 0, .int .i64 0, .int .u8 0, .bool false, .int .u8 0, .int .u8 0, .int .u8 0, .int .u8 0, .int .u8 0, .int .u8 0, .int .u8 0, .int .u8 0, .int .u8 0, .int .u8 0, .int .u8 0, .int .u8 0, .int .u8 0, .int .u8 0, .int .u8 0, .int .u8 0, .bool false, .int .u8 0, .int .u8 0, .int .u8 0, .int .u8 0, .int .u8 0, .int .u8 0, .int .u8 0, .int .u8 0, .int .u8 0, .int .u8 0, .int .u8 0, .int .u8 0, .int .u8 0, .int .u8 0, .int .u8 0, .int .u8 0]) Yr.out Zr.out Ar.out ?_); (case sg4 => rfl); (case so4 => rfl); (case sx4 => rfl); (case sy4 => rfl)))
  have qN1NR : w.heap.size < V6.heap.size := N1.out.lt
  have qN2NR : w.heap.size + 1 < V6.heap.size := N2.out.lt
  have qNHNR : V4.heap.size < V6.heap.size := NH.out.lt
  intro V7 hA hF hB
  have hy := ((Below.refl V6.heap.size V6).alloc (Nat.le_refl _) (.cells #[Value.int .i64 0, .int .i64 0, .int .u8 0, .bool false, .int .u8 0, .int .u8 0, .int .u8 0, .int .u8 0, .int .u8 0, .int .u8 0, .int .u8 0, .int .u8 0, .int .u8 0, .int .u8 0, .int .u8 0, .int .u8 0, .int .u8 0, .int .u8 0, .int .u8 0, .int .u8 0, .bool false, .int .u8 0, .int .u8 0, .int .u8 0, .int .u8 0, .int .u8 0, .int .u8 0, .int .u8 0, .int .u8 0, .int .u8 0, .int .u8 0, .int .u8 0, .int .u8 0, .int .u8 0, .int .u8 0, .int .u8 0, .int .u8 0] 33)).trans (hB _ (Nat.le_refl _))
  replace K := Lib.hid (K.out.trans (hy.mono K.out.size))
  replace N1 := Lib.hid (N1.out.below hy N1.out.lt)
  replace N2 := Lib.hid (N2.out.below hy N2.out.lt)
  replace NH := Lib.hid (NH.out.below hy NH.out.lt)
  have NR := Lib.hid hA
  clear hA hF hB hy
  have L5 : (loadVar 25 ⟨w.heap.size + 1, 0, none⟩).run Try.prog V7 = .ok (.agg c2) V7 := run_blk_load (P := Try.prog) 25 (w.heap.size + 1) _ N2.out Try.underlying25 rfl I2.out
  replace L5 := Lib.hid L5
  have L6 : (loadVar 25 ⟨w.heap.size, 0, none⟩).run Try.prog V7 = .ok (.agg c1) V7 := run_blk_load (P := Try.prog) 25 (w.heap.size) _ N1.out Try.underlying25 rfl I1.out
  replace L6 := Lib.hid L6
  go_wp2_with (first | ((with_reducible refine wpList_load_want (op := ⟨some 44, .load 25 (.tmp 7), _, _, _, _⟩) ?wg5 25 (.tmp 7) ?wo5 ⟨w.heap.size + 1, 0, none⟩ ?wx5 (.agg c2) L5.out ?_); (case wg5 => rfl); (case wo5 => rfl); (case wx5 => rfl)) | ((with_reducible refine wpList_load_want (op := ⟨some 45, .load 25 (.tmp 6), _, _, _, _⟩) ?wg6 25 (.tmp 6) ?wo6 ⟨w.heap.size, 0, none⟩ ?wx6 (.agg c1) L6.out ?_); (case wg6 => rfl); (case wo6 => rfl); (case wx6 => rfl)))
  clear L5 L6
  refine (CM.out _).mono ?_
  rintro e V8 ⟨m, rfl, om, hy⟩
  replace K := Lib.hid (K.out.trans (hy.mono K.out.size))
  replace N1 := Lib.hid (N1.out.below hy N1.out.lt)
  replace N2 := Lib.hid (N2.out.below hy N2.out.lt)
  replace NH := Lib.hid (NH.out.below hy NH.out.lt)
  replace NR := Lib.hid (NR.out.below hy NR.out.lt)
  have M1 := Lib.hid (om)
  clear om
  clear hy
  have L7 : (loadVar 25 ⟨w.heap.size + 1, 0, none⟩).run Try.prog V8 = .ok (.agg c2) V8 := run_blk_load (P := Try.prog) 25 (w.heap.size + 1) _ N2.out Try.underlying25 rfl I2.out
  replace L7 := Lib.hid L7
  have L8 : (loadVar 25 ⟨w.heap.size, 0, none⟩).run Try.prog V8 = .ok (.agg c1) V8 := run_blk_load (P := Try.prog) 25 (w.heap.size) _ N1.out Try.underlying25 rfl I1.out
  replace L8 := Lib.hid L8
  go_wp2_with (first | ((with_reducible refine wpList_load_want (op := ⟨some 52, .load 25 (.tmp 7), _, _, _, _⟩) ?wg7 25 (.tmp 7) ?wo7 ⟨w.heap.size + 1, 0, none⟩ ?wx7 (.agg c2) L7.out ?_); (case wg7 => rfl); (case wo7 => rfl); (case wx7 => rfl)) | ((with_reducible refine wpList_load_want (op := ⟨some 53, .load 25 (.tmp 6), _, _, _, _⟩) ?wg8 25 (.tmp 6) ?wo8 ⟨w.heap.size, 0, none⟩ ?wx8 (.agg c1) L8.out ?_); (case wg8 => rfl); (case wo8 => rfl); (case wx8 => rfl)))
  clear L7 L8
  refine (CN.out _).mono ?_
  rintro e V9 ⟨m2, rfl, om, hy⟩
  replace K := Lib.hid (K.out.trans (hy.mono K.out.size))
  replace N1 := Lib.hid (N1.out.below hy N1.out.lt)
  replace N2 := Lib.hid (N2.out.below hy N2.out.lt)
  replace NH := Lib.hid (NH.out.below hy NH.out.lt)
  replace NR := Lib.hid (NR.out.below hy NR.out.lt)
  replace M1 := Lib.hid (M1.out.below hy)
  have M2 := Lib.hid (om)
  clear om
  clear hy
  have HM1' : ∀ W', Below V9.heap.size V9 W' → (convert 22 9 m).run Try.prog W' = .ok (.string (str MO)) W' := fun W' hW' => conv_rd W' 22 9 5 Try.underlying22 Try.underlying5 Try.underlying9 _ _ (M1.out.below hW')
  have HM2' : ∀ W', Below V9.heap.size V9 W' → (convert 22 9 m2).run Try.prog W' = .ok (.string (str MO)) W' := fun W' hW' => conv_rd W' 22 9 5 Try.underlying22 Try.underlying5 Try.underlying9 _ _ (M2.out.below hW')
  obtain ⟨TM, hTM⟩ : ∃ T, T = str MO := ⟨_, rfl⟩
  obtain ⟨TD, hTD⟩ : ∃ T, T = str DO := ⟨_, rfl⟩
  rw [← hTM] at HM1' HM2'
  have HTD := Lib.hid hTD
  have HM1 := Lib.hid HM1'
  have HM2 := Lib.hid HM2'
  clear HM1' HM2' hTM hTD
  go_wp2_with fail
  refine wp_region_held (S := (fun w' : World => Below (V9.heap.size) V9 w')) (by kernel_rfl) ?_
  change wpAnyH _ _ _ _ _ _ _ _ V9.drew
  have hy : Below V9.heap.size V9 V9.drew := (Below.refl _ _).drew
  have hE0 : Below (V9.heap.size) V9 V9.drew := (Below.refl _ _).drew
  clear hy
  generalize V9.drew = Y7x0 at hE0  ⊢
  have E0 := Lib.hid hE0
  clear hE0
  refine wpAnyH_take (i := 0) (oi := { dst := some 59, op := Op.fieldAddr 29 (Operand.tmp 11) 0, type := 0, pos := "law.go:33", after := #[], guard := none }) (v := ?_) rfl (by kernel_rfl) (by kernel_rfl) (by kernel_rfl) (fun _ _ _ h => h) (Or.inl ⟨by rfl, ?_⟩) E0.out ?_
  rotate_left
  · (intro w1 hS; go_simp; try with_reducible rfl)
  simp only [Act.put, List.setIfInBounds_toArray, List.set_cons_zero, List.set_cons_succ]
  refine wpAnyH_take (i := 1) (oi := { dst := some 60, op := Op.load 3 (Operand.tmp 59), type := 3, pos := "law.go:33", after := #[{ on := 0, ground := Ground.data }], guard := none }) (v := ?_) rfl (by kernel_rfl) (by kernel_rfl) (by kernel_rfl) (fun _ _ _ h => h) (Or.inl ⟨by rfl, ?_⟩) E0.out ?_
  rotate_left
  · (intro w1 hS; have hW := hS; have q := ((NH.out.below hW NH.out.lt).cell 0).trans G0.out; clear hW hS; go_simp; try with_reducible rfl)
  simp only [Act.put, List.setIfInBounds_toArray, List.set_cons_zero, List.set_cons_succ]
  refine wpAnyH_take (i := 2) (oi := { dst := some 61, op := Op.fieldAddr 33 (Operand.tmp 13) 1, type := 0, pos := "law.go:33", after := #[], guard := none }) (v := ?_) rfl (by kernel_rfl) (by kernel_rfl) (by kernel_rfl) (fun _ _ _ h => h) (Or.inl ⟨by rfl, ?_⟩) E0.out ?_
  rotate_left
  · (intro w1 hS; go_simp; try with_reducible rfl)
  simp only [Act.put, List.setIfInBounds_toArray, List.set_cons_zero, List.set_cons_succ]
  refine wpAnyH_take (i := 3) (oi := { dst := some 62, op := Op.load 3 (Operand.tmp 61), type := 3, pos := "law.go:33", after := #[{ on := 2, ground := Ground.data }], guard := none }) (v := ?_) rfl (by kernel_rfl) (by kernel_rfl) (by kernel_rfl) (fun _ _ _ h => h) (Or.inl ⟨by rfl, ?_⟩) E0.out ?_
  rotate_left
  · (intro w1 hS; have hW := hS; have q := ((NR.out.below hW NR.out.lt).cell 1).trans R1.out; clear hW hS; go_simp; try with_reducible rfl)
  simp only [Act.put, List.setIfInBounds_toArray, List.set_cons_zero, List.set_cons_succ]
  refine wpAnyH_take (i := 4) (oi := { dst := some 63, op := Op.binOp BinOp.eql 3 (Operand.tmp 60) (Operand.tmp 62) 3, type := 4, pos := "law.go:33", after := #[{ on := 1, ground := Ground.data }, { on := 3, ground := Ground.data }], guard := none }) (v := ?_) rfl (by kernel_rfl) (by kernel_rfl) (by kernel_rfl) (fun _ _ _ h => h) (Or.inl ⟨by rfl, ?_⟩) E0.out ?_
  rotate_left
  · (intro w1 hS; go_simp; try with_reducible rfl)
  simp only [Act.put, List.setIfInBounds_toArray, List.set_cons_zero, List.set_cons_succ]
  refine wpAnyH_take (i := 5) (oi := { dst := some 64, op := Op.move (Operand.tmp 63), type := 4, pos := "law.go:33", after := #[{ on := 4, ground := Ground.data }], guard := none }) (v := ?_) rfl (by kernel_rfl) (by kernel_rfl) (by kernel_rfl) (fun _ _ _ h => h) (Or.inl ⟨by rfl, ?_⟩) E0.out ?_
  rotate_left
  · (intro w1 hS; go_simp; try with_reducible rfl)
  simp only [Act.put, List.setIfInBounds_toArray, List.set_cons_zero, List.set_cons_succ]
  refine wpAnyH_take (i := 6) (oi := { dst := some 65, op := Op.fieldAddr 29 (Operand.tmp 11) 1, type := 0, pos := "law.go:33", after := #[{ on := 5, ground := Ground.guard }], guard := some (5, true) }) (v := ?_) rfl (by kernel_rfl) (by kernel_rfl) (by kernel_rfl) (fun _ _ _ h => h) (Or.inl ⟨by rfl, ?_⟩) E0.out ?_
  rotate_left
  · (intro w1 hS; go_simp; try with_reducible rfl)
  simp only [Act.put, List.setIfInBounds_toArray, List.set_cons_zero, List.set_cons_succ]
  refine wpAnyH_take (i := 7) (oi := { dst := some 66, op := Op.load 5 (Operand.tmp 65), type := 5, pos := "law.go:33", after := #[{ on := 6, ground := Ground.data }, { on := 5, ground := Ground.guard }], guard := some (5, true) }) (v := ?_) rfl (by kernel_rfl) (by kernel_rfl) (by kernel_rfl) (fun _ _ _ h => h) (Or.inl ⟨by rfl, ?_⟩) E0.out ?_
  rotate_left
  · (intro w1 hS; have hW := hS; have q := ((NH.out.below hW NH.out.lt).cell 1).trans G1.out; clear hW hS; go_simp; try with_reducible rfl)
  simp only [Act.put, List.setIfInBounds_toArray, List.set_cons_zero, List.set_cons_succ]
  refine wpAnyH_take (i := 8) (oi := { dst := some 67, op := Op.fieldAddr 33 (Operand.tmp 13) 2, type := 0, pos := "law.go:33", after := #[{ on := 5, ground := Ground.guard }], guard := some (5, true) }) (v := ?_) rfl (by kernel_rfl) (by kernel_rfl) (by kernel_rfl) (fun _ _ _ h => h) (Or.inl ⟨by rfl, ?_⟩) E0.out ?_
  rotate_left
  · (intro w1 hS; go_simp; try with_reducible rfl)
  simp only [Act.put, List.setIfInBounds_toArray, List.set_cons_zero, List.set_cons_succ]
  refine wpAnyH_take (i := 9) (oi := { dst := some 68, op := Op.load 5 (Operand.tmp 67), type := 5, pos := "law.go:33", after := #[{ on := 8, ground := Ground.data }, { on := 5, ground := Ground.guard }], guard := some (5, true) }) (v := ?_) rfl (by kernel_rfl) (by kernel_rfl) (by kernel_rfl) (fun _ _ _ h => h) (Or.inl ⟨by rfl, ?_⟩) E0.out ?_
  rotate_left
  · (intro w1 hS; have hW := hS; have q := ((NR.out.below hW NR.out.lt).cell 2).trans R2.out; clear hW hS; go_simp; try with_reducible rfl)
  simp only [Act.put, List.setIfInBounds_toArray, List.set_cons_zero, List.set_cons_succ]
  refine wpAnyH_take (i := 10) (oi := { dst := some 69, op := Op.binOp BinOp.eql 5 (Operand.tmp 66) (Operand.tmp 68) 5, type := 4, pos := "law.go:33", after := #[{ on := 7, ground := Ground.data }, { on := 9, ground := Ground.data }, { on := 5, ground := Ground.guard }], guard := some (5, true) }) (v := ?_) rfl (by kernel_rfl) (by kernel_rfl) (by kernel_rfl) (fun _ _ _ h => h) (Or.inl ⟨by rfl, ?_⟩) E0.out ?_
  rotate_left
  · (intro w1 hS; go_simp; try with_reducible rfl)
  simp only [Act.put, List.setIfInBounds_toArray, List.set_cons_zero, List.set_cons_succ]
  refine wpAnyH_take (i := 11) (oi := { dst := some 70, op := Op.pick (Operand.tmp 64) (Operand.tmp 69) (Operand.const (Value.bool false)), type := 4, pos := "law.go:33", after := #[{ on := 5, ground := Ground.data }, { on := 10, ground := Ground.data }], guard := none }) (v := ?_) rfl (by kernel_rfl) (by kernel_rfl) (by kernel_rfl) (fun _ _ _ h => h) (Or.inl ⟨by rfl, ?_⟩) E0.out ?_
  rotate_left
  · (intro w1 hS; go_simp; try with_reducible rfl)
  simp only [Act.put, List.setIfInBounds_toArray, List.set_cons_zero, List.set_cons_succ]
  refine wpAnyH_take (i := 12) (oi := { dst := some 71, op := Op.move (Operand.tmp 70), type := 4, pos := "law.go:33", after := #[{ on := 11, ground := Ground.data }, { on := 5, ground := Ground.chain }], guard := none }) (v := ?_) rfl (by kernel_rfl) (by kernel_rfl) (by kernel_rfl) (fun _ _ _ h => h) (Or.inl ⟨by rfl, ?_⟩) E0.out ?_
  rotate_left
  · (intro w1 hS; go_simp; try with_reducible rfl)
  simp only [Act.put, List.setIfInBounds_toArray, List.set_cons_zero, List.set_cons_succ]
  refine wpAnyH_take (i := 13) (oi := { dst := some 72, op := Op.fieldAddr 29 (Operand.tmp 11) 2, type := 0, pos := "law.go:33", after := #[{ on := 12, ground := Ground.guard }], guard := some (12, true) }) (v := ?_) rfl (by kernel_rfl) (by kernel_rfl) (by kernel_rfl) (fun _ _ _ h => h) (Or.inl ⟨by rfl, ?_⟩) E0.out ?_
  rotate_left
  · (intro w1 hS; go_simp; try with_reducible rfl)
  simp only [Act.put, List.setIfInBounds_toArray, List.set_cons_zero, List.set_cons_succ]
  refine wpAnyH_take (i := 14) (oi := { dst := some 73, op := Op.load 25 (Operand.tmp 72), type := 25, pos := "law.go:33", after := #[{ on := 13, ground := Ground.data }, { on := 12, ground := Ground.guard }], guard := some (12, true) }) (v := .agg S) rfl (by kernel_rfl) (by kernel_rfl) (by kernel_rfl) (fun _ _ _ h => h) (Or.inl ⟨by rfl, ?_⟩) E0.out ?_
  · (intro w1 hS; have hW := hS; exact exec_load 25 (.tmp 72) rfl _ rfl _ (by have h := run_part_load (P := Try.prog) 25 2 S.toList _ (NH.out.below hW NH.out.lt) P1.out Try.underlying25 rfl IS.out; rwa [Array.toArray_toList] at h))
  simp only [Act.put, List.setIfInBounds_toArray, List.set_cons_zero, List.set_cons_succ]
  refine wpAnyH_take (i := 15) (oi := { dst := some 74, op := Op.fieldAddr 33 (Operand.tmp 13) 3, type := 0, pos := "law.go:33", after := #[{ on := 12, ground := Ground.guard }], guard := some (12, true) }) (v := ?_) rfl (by kernel_rfl) (by kernel_rfl) (by kernel_rfl) (fun _ _ _ h => h) (Or.inl ⟨by rfl, ?_⟩) E0.out ?_
  rotate_left
  · (intro w1 hS; go_simp; try with_reducible rfl)
  simp only [Act.put, List.setIfInBounds_toArray, List.set_cons_zero, List.set_cons_succ]
  refine wpAnyH_take (i := 16) (oi := { dst := some 75, op := Op.load 25 (Operand.tmp 74), type := 25, pos := "law.go:33", after := #[{ on := 15, ground := Ground.data }, { on := 12, ground := Ground.guard }], guard := some (12, true) }) (v := .agg S) rfl (by kernel_rfl) (by kernel_rfl) (by kernel_rfl) (fun _ _ _ h => h) (Or.inl ⟨by rfl, ?_⟩) E0.out ?_
  · (intro w1 hS; have hW := hS; exact exec_load 25 (.tmp 74) rfl _ rfl _ (by have h := run_part_load (P := Try.prog) 25 3 S.toList _ (NR.out.below hW NR.out.lt) P3.out Try.underlying25 rfl IS.out; rwa [Array.toArray_toList] at h))
  simp only [Act.put, List.setIfInBounds_toArray, List.set_cons_zero, List.set_cons_succ]
  refine wpAnyH_take (i := 17) (oi := { dst := some 76, op := Op.binOp BinOp.eql 25 (Operand.tmp 73) (Operand.tmp 75) 25, type := 4, pos := "law.go:33", after := #[{ on := 14, ground := Ground.data }, { on := 16, ground := Ground.data }, { on := 12, ground := Ground.guard }], guard := some (12, true) }) (v := ?_) rfl (by kernel_rfl) (by kernel_rfl) (by kernel_rfl) (fun _ _ _ h => h) (Or.inl ⟨by rfl, ?_⟩) E0.out ?_
  rotate_left
  · (intro w1 hS; have hW := hS; have q := QS.out; clear hW hS; go_simp; try with_reducible rfl)
  simp only [Act.put, List.setIfInBounds_toArray, List.set_cons_zero, List.set_cons_succ]
  refine wpAnyH_take (i := 18) (oi := { dst := some 77, op := Op.pick (Operand.tmp 71) (Operand.tmp 76) (Operand.const (Value.bool false)), type := 4, pos := "law.go:33", after := #[{ on := 12, ground := Ground.data }, { on := 17, ground := Ground.data }], guard := none }) (v := ?_) rfl (by kernel_rfl) (by kernel_rfl) (by kernel_rfl) (fun _ _ _ h => h) (Or.inl ⟨by rfl, ?_⟩) E0.out ?_
  rotate_left
  · (intro w1 hS; go_simp; try with_reducible rfl)
  simp only [Act.put, List.setIfInBounds_toArray, List.set_cons_zero, List.set_cons_succ]
  refine wpAnyH_take (i := 19) (oi := { dst := some 78, op := Op.move (Operand.tmp 77), type := 4, pos := "law.go:33", after := #[{ on := 18, ground := Ground.data }, { on := 12, ground := Ground.chain }], guard := none }) (v := ?_) rfl (by kernel_rfl) (by kernel_rfl) (by kernel_rfl) (fun _ _ _ h => h) (Or.inl ⟨by rfl, ?_⟩) E0.out ?_
  rotate_left
  · (intro w1 hS; go_simp; try with_reducible rfl)
  simp only [Act.put, List.setIfInBounds_toArray, List.set_cons_zero, List.set_cons_succ]
  refine wpAnyH_take (i := 20) (oi := { dst := some 79, op := Op.fieldAddr 29 (Operand.tmp 11) 3, type := 0, pos := "law.go:33", after := #[{ on := 19, ground := Ground.guard }], guard := some (19, true) }) (v := ?_) rfl (by kernel_rfl) (by kernel_rfl) (by kernel_rfl) (fun _ _ _ h => h) (Or.inl ⟨by rfl, ?_⟩) E0.out ?_
  rotate_left
  · (intro w1 hS; go_simp; try with_reducible rfl)
  simp only [Act.put, List.setIfInBounds_toArray, List.set_cons_zero, List.set_cons_succ]
  refine wpAnyH_take (i := 21) (oi := { dst := some 80, op := Op.load 25 (Operand.tmp 79), type := 25, pos := "law.go:33", after := #[{ on := 20, ground := Ground.data }, { on := 19, ground := Ground.guard }], guard := some (19, true) }) (v := .agg D) rfl (by kernel_rfl) (by kernel_rfl) (by kernel_rfl) (fun _ _ _ h => h) (Or.inl ⟨by rfl, ?_⟩) E0.out ?_
  · (intro w1 hS; have hW := hS; exact exec_load 25 (.tmp 79) rfl _ rfl _ (by have h := run_part_load (P := Try.prog) 25 19 D.toList _ (NH.out.below hW NH.out.lt) P2.out Try.underlying25 rfl ID.out; rwa [Array.toArray_toList] at h))
  simp only [Act.put, List.setIfInBounds_toArray, List.set_cons_zero, List.set_cons_succ]
  refine wpAnyH_take (i := 22) (oi := { dst := some 81, op := Op.fieldAddr 33 (Operand.tmp 13) 4, type := 0, pos := "law.go:33", after := #[{ on := 19, ground := Ground.guard }], guard := some (19, true) }) (v := ?_) rfl (by kernel_rfl) (by kernel_rfl) (by kernel_rfl) (fun _ _ _ h => h) (Or.inl ⟨by rfl, ?_⟩) E0.out ?_
  rotate_left
  · (intro w1 hS; go_simp; try with_reducible rfl)
  simp only [Act.put, List.setIfInBounds_toArray, List.set_cons_zero, List.set_cons_succ]
  refine wpAnyH_take (i := 23) (oi := { dst := some 82, op := Op.load 25 (Operand.tmp 81), type := 25, pos := "law.go:33", after := #[{ on := 22, ground := Ground.data }, { on := 19, ground := Ground.guard }], guard := some (19, true) }) (v := .agg D) rfl (by kernel_rfl) (by kernel_rfl) (by kernel_rfl) (fun _ _ _ h => h) (Or.inl ⟨by rfl, ?_⟩) E0.out ?_
  · (intro w1 hS; have hW := hS; exact exec_load 25 (.tmp 81) rfl _ rfl _ (by have h := run_part_load (P := Try.prog) 25 20 D.toList _ (NR.out.below hW NR.out.lt) P4.out Try.underlying25 rfl ID.out; rwa [Array.toArray_toList] at h))
  simp only [Act.put, List.setIfInBounds_toArray, List.set_cons_zero, List.set_cons_succ]
  refine wpAnyH_take (i := 24) (oi := { dst := some 83, op := Op.binOp BinOp.eql 25 (Operand.tmp 80) (Operand.tmp 82) 25, type := 4, pos := "law.go:33", after := #[{ on := 21, ground := Ground.data }, { on := 23, ground := Ground.data }, { on := 19, ground := Ground.guard }], guard := some (19, true) }) (v := ?_) rfl (by kernel_rfl) (by kernel_rfl) (by kernel_rfl) (fun _ _ _ h => h) (Or.inl ⟨by rfl, ?_⟩) E0.out ?_
  rotate_left
  · (intro w1 hS; have hW := hS; have q := QD.out; clear hW hS; go_simp; try with_reducible rfl)
  simp only [Act.put, List.setIfInBounds_toArray, List.set_cons_zero, List.set_cons_succ]
  refine wpAnyH_take (i := 25) (oi := { dst := some 84, op := Op.pick (Operand.tmp 78) (Operand.tmp 83) (Operand.const (Value.bool false)), type := 4, pos := "law.go:33", after := #[{ on := 19, ground := Ground.data }, { on := 24, ground := Ground.data }], guard := none }) (v := ?_) rfl (by kernel_rfl) (by kernel_rfl) (by kernel_rfl) (fun _ _ _ h => h) (Or.inl ⟨by rfl, ?_⟩) E0.out ?_
  rotate_left
  · (intro w1 hS; go_simp; try with_reducible rfl)
  simp only [Act.put, List.setIfInBounds_toArray, List.set_cons_zero, List.set_cons_succ]
  refine wpAnyH_take (i := 26) (oi := { dst := some 85, op := Op.move (Operand.tmp 84), type := 4, pos := "law.go:33", after := #[{ on := 25, ground := Ground.data }, { on := 19, ground := Ground.chain }], guard := none }) (v := ?_) rfl (by kernel_rfl) (by kernel_rfl) (by kernel_rfl) (fun _ _ _ h => h) (Or.inl ⟨by rfl, ?_⟩) E0.out ?_
  rotate_left
  · (intro w1 hS; go_simp; try with_reducible rfl)
  simp only [Act.put, List.setIfInBounds_toArray, List.set_cons_zero, List.set_cons_succ]
  refine wpAnyH_take (i := 27) (oi := { dst := some 86, op := Op.move (Operand.tmp 12), type := 3, pos := "law.go:33", after := #[{ on := 26, ground := Ground.guard }], guard := some (26, true) }) (v := ?_) rfl (by kernel_rfl) (by kernel_rfl) (by kernel_rfl) (fun _ _ _ h => h) (Or.inl ⟨by rfl, ?_⟩) E0.out ?_
  rotate_left
  · (intro w1 hS; go_simp; try with_reducible rfl)
  simp only [Act.put, List.setIfInBounds_toArray, List.set_cons_zero, List.set_cons_succ]
  refine wpAnyH_take (i := 28) (oi := { dst := some 87, op := Op.move (Operand.tmp 14), type := 3, pos := "law.go:33", after := #[{ on := 26, ground := Ground.guard }], guard := some (26, true) }) (v := ?_) rfl (by kernel_rfl) (by kernel_rfl) (by kernel_rfl) (fun _ _ _ h => h) (Or.inl ⟨by rfl, ?_⟩) E0.out ?_
  rotate_left
  · (intro w1 hS; go_simp; try with_reducible rfl)
  simp only [Act.put, List.setIfInBounds_toArray, List.set_cons_zero, List.set_cons_succ]
  refine wpAnyH_take (i := 29) (oi := { dst := some 88, op := Op.binOp BinOp.eql 3 (Operand.tmp 86) (Operand.tmp 87) 3, type := 4, pos := "law.go:33", after := #[{ on := 27, ground := Ground.data }, { on := 28, ground := Ground.data }, { on := 26, ground := Ground.guard }], guard := some (26, true) }) (v := ?_) rfl (by kernel_rfl) (by kernel_rfl) (by kernel_rfl) (fun _ _ _ h => h) (Or.inl ⟨by rfl, ?_⟩) E0.out ?_
  rotate_left
  · (intro w1 hS; go_simp; try with_reducible rfl)
  simp only [Act.put, List.setIfInBounds_toArray, List.set_cons_zero, List.set_cons_succ]
  refine wpAnyH_take (i := 30) (oi := { dst := some 89, op := Op.pick (Operand.tmp 85) (Operand.tmp 88) (Operand.const (Value.bool false)), type := 4, pos := "law.go:33", after := #[{ on := 26, ground := Ground.data }, { on := 29, ground := Ground.data }], guard := none }) (v := ?_) rfl (by kernel_rfl) (by kernel_rfl) (by kernel_rfl) (fun _ _ _ h => h) (Or.inl ⟨by rfl, ?_⟩) E0.out ?_
  rotate_left
  · (intro w1 hS; go_simp; try with_reducible rfl)
  simp only [Act.put, List.setIfInBounds_toArray, List.set_cons_zero, List.set_cons_succ]
  refine wpAnyH_take (i := 31) (oi := { dst := some 90, op := Op.move (Operand.tmp 89), type := 4, pos := "law.go:33", after := #[{ on := 30, ground := Ground.data }, { on := 26, ground := Ground.chain }], guard := none }) (v := ?_) rfl (by kernel_rfl) (by kernel_rfl) (by kernel_rfl) (fun _ _ _ h => h) (Or.inl ⟨by rfl, ?_⟩) E0.out ?_
  rotate_left
  · (intro w1 hS; go_simp; try with_reducible rfl)
  simp only [Act.put, List.setIfInBounds_toArray, List.set_cons_zero, List.set_cons_succ]
  refine wpAnyH_take (i := 32) (oi := { dst := some 91, op := Op.move (Operand.tmp 0), type := 22, pos := "law.go:33", after := #[{ on := 31, ground := Ground.guard }], guard := some (31, true) }) (v := ?_) rfl (by kernel_rfl) (by kernel_rfl) (by kernel_rfl) (fun _ _ _ h => h) (Or.inl ⟨by rfl, ?_⟩) E0.out ?_
  rotate_left
  · (intro w1 hS; go_simp; try with_reducible rfl)
  simp only [Act.put, List.setIfInBounds_toArray, List.set_cons_zero, List.set_cons_succ]
  refine wpAnyH_take (i := 33) (oi := { dst := some 92, op := Op.load 25 (Operand.tmp 6), type := 25, pos := "law.go:33", after := #[{ on := 31, ground := Ground.guard }], guard := some (31, true) }) (v := .agg c1) rfl (by kernel_rfl) (by kernel_rfl) (by kernel_rfl) (fun _ _ _ h => h) (Or.inl ⟨by rfl, ?_⟩) E0.out ?_
  · (intro w1 hS; have hW := hS; exact exec_load 25 (.tmp 6) rfl _ rfl _ (run_blk_load (P := Try.prog) 25 (w.heap.size) _ (N1.out.below hW N1.out.lt) Try.underlying25 rfl I1.out))
  simp only [Act.put, List.setIfInBounds_toArray, List.set_cons_zero, List.set_cons_succ]
  refine wpAnyH_take (i := 36) (oi := { dst := some 95, op := Op.move (Operand.tmp 0), type := 22, pos := "law.go:33", after := #[{ on := 31, ground := Ground.guard }], guard := some (31, true) }) (v := ?_) rfl (by kernel_rfl) (by kernel_rfl) (by kernel_rfl) (fun _ _ _ h => h) (Or.inl ⟨by rfl, ?_⟩) E0.out ?_
  rotate_left
  · (intro w1 hS; go_simp; try with_reducible rfl)
  simp only [Act.put, List.setIfInBounds_toArray, List.set_cons_zero, List.set_cons_succ]
  refine wpAnyH_take (i := 37) (oi := { dst := some 96, op := Op.load 25 (Operand.tmp 6), type := 25, pos := "law.go:33", after := #[{ on := 31, ground := Ground.guard }], guard := some (31, true) }) (v := .agg c1) rfl (by kernel_rfl) (by kernel_rfl) (by kernel_rfl) (fun _ _ _ h => h) (Or.inl ⟨by rfl, ?_⟩) E0.out ?_
  · (intro w1 hS; have hW := hS; exact exec_load 25 (.tmp 6) rfl _ rfl _ (run_blk_load (P := Try.prog) 25 (w.heap.size) _ (N1.out.below hW N1.out.lt) Try.underlying25 rfl I1.out))
  simp only [Act.put, List.setIfInBounds_toArray, List.set_cons_zero, List.set_cons_succ]
  refine wpAnyH_ready (rs := [34]) (by kernel_rfl) (by simp) ?_
  refine AllReadyH.cons (o := { dst := some 93, op := Op.call { callee := Callee.value (Operand.func 13), args := #[Operand.tmp 91, Operand.tmp 92], argTypes := #[22, 25] }, type := 22, pos := "law.go:33", after := #[{ on := 32, ground := Ground.data }, { on := 33, ground := Ground.data }, { on := 31, ground := Ground.chain }, { on := 31, ground := Ground.guard }], guard := some (31, true) }) rfl (fun KK hK => ?_) AllReadyH.nil
  go_simp
  refine (CD.out Y7x0 ((HR.out.below K.out).below E0.out) HLn.out).mono ?_
  rintro e Y7x1 ⟨x, rfl, rx, hy⟩
  have E1 := Lib.hid (E0.out.trans (hy.mono E0.out.size))
  have C1 := Lib.hid E1.out
  have Hx' : ∀ W', Below Y7x1.heap.size Y7x1 W' → (convert 22 9 x).run Try.prog W' = .ok (.string (str DO)) W' := fun W' hW' => conv_rd W' 22 9 5 Try.underlying22 Try.underlying5 Try.underlying9 _ _ (rx.below hW')
  rw [← HTD.out] at Hx'
  have Hx := Lib.hid Hx'
  clear Hx' rx
  clear hy E0
  refine hK.out _ _ C1.out (fun _ => ?_)
  clear hK KK
  refine wpAnyH_mono (S' := (fun w' : World => Below Y7x1.heap.size Y7x1 w')) (fun w1 h => C1.out.trans (h.mono C1.out.size)) _ _ _ _ ?_
  clear C1
  try simp only [Act.put, List.setIfInBounds_toArray, List.set_cons_zero, List.set_cons_succ]
  refine wpAnyH_take (i := 35) (oi := { dst := some 94, op := Op.convert 22 9 (Operand.tmp 93), type := 9, pos := "law.go:33", after := #[{ on := 34, ground := Ground.data }, { on := 31, ground := Ground.guard }], guard := some (31, true) }) (v := ?_) rfl (by kernel_rfl) (by kernel_rfl) (by kernel_rfl) (fun _ _ _ h => h) (Or.inl ⟨by rfl, ?_⟩) (Below.refl _ _) ?_
  rotate_left
  · (intro w1 hS; have hW := E1.out.trans (hS.mono E1.out.size); have q := Hx.out w1 hS; clear hW hS; go_simp; try with_reducible rfl)
  simp only [Act.put, List.setIfInBounds_toArray, List.set_cons_zero, List.set_cons_succ]
  refine wpAnyH_ready (rs := [38]) (by kernel_rfl) (by simp) ?_
  refine AllReadyH.cons (o := { dst := some 97, op := Op.call { callee := Callee.value (Operand.func 14), args := #[Operand.tmp 95, Operand.tmp 96], argTypes := #[22, 25] }, type := 22, pos := "law.go:33", after := #[{ on := 36, ground := Ground.data }, { on := 37, ground := Ground.data }, { on := 34, ground := Ground.chain }, { on := 31, ground := Ground.guard }], guard := some (31, true) }) rfl (fun KK hK => ?_) AllReadyH.nil
  go_simp
  refine (CE.out Y7x1 ((HR.out.below K.out).below E1.out) HLn.out).mono ?_
  rintro e Y7x2 ⟨z, rfl, rz, hy⟩
  have E2 := Lib.hid (E1.out.trans (hy.mono E1.out.size))
  have C2 := Lib.hid hy
  have Hz' : ∀ W', Below Y7x2.heap.size Y7x2 W' → (convert 22 9 z).run Try.prog W' = .ok (.string (str DO)) W' := fun W' hW' => conv_rd W' 22 9 5 Try.underlying22 Try.underlying5 Try.underlying9 _ _ (rz.below hW')
  rw [← HTD.out] at Hz'
  have Hz := Lib.hid Hz'
  clear Hz' rz
  clear hy E1
  refine hK.out _ _ C2.out (fun _ => ?_)
  clear hK KK
  refine wpAnyH_mono (S' := (fun w' : World => Below Y7x2.heap.size Y7x2 w')) (fun w1 h => C2.out.trans (h.mono C2.out.size)) _ _ _ _ ?_
  clear C2
  try simp only [Act.put, List.setIfInBounds_toArray, List.set_cons_zero, List.set_cons_succ]
  refine wpAnyH_take (i := 39) (oi := { dst := some 98, op := Op.convert 22 9 (Operand.tmp 97), type := 9, pos := "law.go:33", after := #[{ on := 38, ground := Ground.data }, { on := 31, ground := Ground.guard }], guard := some (31, true) }) (v := ?_) rfl (by kernel_rfl) (by kernel_rfl) (by kernel_rfl) (fun _ _ _ h => h) (Or.inl ⟨by rfl, ?_⟩) (Below.refl _ _) ?_
  rotate_left
  · (intro w1 hS; have hW := E2.out.trans (hS.mono E2.out.size); have q := Hz.out w1 hS; clear hW hS; go_simp; try with_reducible rfl)
  simp only [Act.put, List.setIfInBounds_toArray, List.set_cons_zero, List.set_cons_succ]
  refine wpAnyH_take (i := 40) (oi := { dst := some 99, op := Op.binOp BinOp.eql 9 (Operand.tmp 94) (Operand.tmp 98) 9, type := 4, pos := "law.go:33", after := #[{ on := 35, ground := Ground.data }, { on := 39, ground := Ground.data }, { on := 31, ground := Ground.guard }], guard := some (31, true) }) (v := ?_) rfl (by kernel_rfl) (by kernel_rfl) (by kernel_rfl) (fun _ _ _ h => h) (Or.inl ⟨by rfl, ?_⟩) (Below.refl _ _) ?_
  rotate_left
  · (intro w1 hS; go_simp; try with_reducible rfl)
  simp only [Act.put, List.setIfInBounds_toArray, List.set_cons_zero, List.set_cons_succ]
  refine wpAnyH_take (i := 41) (oi := { dst := some 100, op := Op.pick (Operand.tmp 90) (Operand.tmp 99) (Operand.const (Value.bool false)), type := 4, pos := "law.go:33", after := #[{ on := 31, ground := Ground.data }, { on := 40, ground := Ground.data }], guard := none }) (v := ?_) rfl (by kernel_rfl) (by kernel_rfl) (by kernel_rfl) (fun _ _ _ h => h) (Or.inl ⟨by rfl, ?_⟩) (Below.refl _ _) ?_
  rotate_left
  · (intro w1 hS; go_simp; try with_reducible rfl)
  simp only [Act.put, List.setIfInBounds_toArray, List.set_cons_zero, List.set_cons_succ]
  refine wpAnyH_take (i := 42) (oi := { dst := some 101, op := Op.move (Operand.tmp 100), type := 4, pos := "law.go:33", after := #[{ on := 41, ground := Ground.data }, { on := 38, ground := Ground.chain }], guard := none }) (v := ?_) rfl (by kernel_rfl) (by kernel_rfl) (by kernel_rfl) (fun _ _ _ h => h) (Or.inl ⟨by rfl, ?_⟩) (Below.refl _ _) ?_
  rotate_left
  · (intro w1 hS; go_simp; try with_reducible rfl)
  simp only [Act.put, List.setIfInBounds_toArray, List.set_cons_zero, List.set_cons_succ]
  refine wpAnyH_take (i := 43) (oi := { dst := some 102, op := Op.move (Operand.tmp 15), type := 22, pos := "law.go:33", after := #[{ on := 42, ground := Ground.guard }], guard := some (42, true) }) (v := ?_) rfl (by kernel_rfl) (by kernel_rfl) (by kernel_rfl) (fun _ _ _ h => h) (Or.inl ⟨by rfl, ?_⟩) (Below.refl _ _) ?_
  rotate_left
  · (intro w1 hS; go_simp; try with_reducible rfl)
  simp only [Act.put, List.setIfInBounds_toArray, List.set_cons_zero, List.set_cons_succ]
  refine wpAnyH_take (i := 44) (oi := { dst := some 103, op := Op.convert 22 9 (Operand.tmp 102), type := 9, pos := "law.go:33", after := #[{ on := 43, ground := Ground.data }, { on := 42, ground := Ground.guard }], guard := some (42, true) }) (v := ?_) rfl (by kernel_rfl) (by kernel_rfl) (by kernel_rfl) (fun _ _ _ h => h) (Or.inl ⟨by rfl, ?_⟩) (Below.refl _ _) ?_
  rotate_left
  · (intro w1 hS; have hW := E2.out.trans (hS.mono E2.out.size); have q := HM1.out w1 hW; clear hW hS; go_simp; try with_reducible rfl)
  simp only [Act.put, List.setIfInBounds_toArray, List.set_cons_zero, List.set_cons_succ]
  refine wpAnyH_take (i := 45) (oi := { dst := some 104, op := Op.move (Operand.tmp 17), type := 22, pos := "law.go:33", after := #[{ on := 42, ground := Ground.guard }], guard := some (42, true) }) (v := ?_) rfl (by kernel_rfl) (by kernel_rfl) (by kernel_rfl) (fun _ _ _ h => h) (Or.inl ⟨by rfl, ?_⟩) (Below.refl _ _) ?_
  rotate_left
  · (intro w1 hS; go_simp; try with_reducible rfl)
  simp only [Act.put, List.setIfInBounds_toArray, List.set_cons_zero, List.set_cons_succ]
  refine wpAnyH_take (i := 46) (oi := { dst := some 105, op := Op.convert 22 9 (Operand.tmp 104), type := 9, pos := "law.go:33", after := #[{ on := 45, ground := Ground.data }, { on := 42, ground := Ground.guard }], guard := some (42, true) }) (v := ?_) rfl (by kernel_rfl) (by kernel_rfl) (by kernel_rfl) (fun _ _ _ h => h) (Or.inl ⟨by rfl, ?_⟩) (Below.refl _ _) ?_
  rotate_left
  · (intro w1 hS; have hW := E2.out.trans (hS.mono E2.out.size); have q := HM2.out w1 hW; clear hW hS; go_simp; try with_reducible rfl)
  simp only [Act.put, List.setIfInBounds_toArray, List.set_cons_zero, List.set_cons_succ]
  refine wpAnyH_take (i := 47) (oi := { dst := some 106, op := Op.binOp BinOp.eql 9 (Operand.tmp 103) (Operand.tmp 105) 9, type := 4, pos := "law.go:33", after := #[{ on := 44, ground := Ground.data }, { on := 46, ground := Ground.data }, { on := 42, ground := Ground.guard }], guard := some (42, true) }) (v := ?_) rfl (by kernel_rfl) (by kernel_rfl) (by kernel_rfl) (fun _ _ _ h => h) (Or.inl ⟨by rfl, ?_⟩) (Below.refl _ _) ?_
  rotate_left
  · (intro w1 hS; go_simp; try with_reducible rfl)
  simp only [Act.put, List.setIfInBounds_toArray, List.set_cons_zero, List.set_cons_succ]
  refine wpAnyH_take (i := 48) (oi := { dst := some 107, op := Op.pick (Operand.tmp 101) (Operand.tmp 106) (Operand.const (Value.bool false)), type := 4, pos := "law.go:33", after := #[{ on := 42, ground := Ground.data }, { on := 47, ground := Ground.data }], guard := none }) (v := ?_) rfl (by kernel_rfl) (by kernel_rfl) (by kernel_rfl) (fun _ _ _ h => h) (Or.inl ⟨by rfl, ?_⟩) (Below.refl _ _) ?_
  rotate_left
  · (intro w1 hS; go_simp; try with_reducible rfl)
  simp only [Act.put, List.setIfInBounds_toArray, List.set_cons_zero, List.set_cons_succ]
  refine wpAnyH_take (i := 49) (oi := { dst := some 108, op := Op.move (Operand.tmp 107), type := 4, pos := "law.go:33", after := #[{ on := 48, ground := Ground.data }, { on := 42, ground := Ground.chain }], guard := none }) (v := ?_) rfl (by kernel_rfl) (by kernel_rfl) (by kernel_rfl) (fun _ _ _ h => h) (Or.inl ⟨by rfl, ?_⟩) (Below.refl _ _) ?_
  rotate_left
  · (intro w1 hS; go_simp; try with_reducible rfl)
  simp only [Act.put, List.setIfInBounds_toArray, List.set_cons_zero, List.set_cons_succ]
  refine wpAnyH_take (i := 50) (oi := { dst := some 109, op := Op.move (Operand.tmp 16), type := 4, pos := "law.go:33", after := #[{ on := 49, ground := Ground.guard }], guard := some (49, true) }) (v := ?_) rfl (by kernel_rfl) (by kernel_rfl) (by kernel_rfl) (fun _ _ _ h => h) (Or.inl ⟨by rfl, ?_⟩) (Below.refl _ _) ?_
  rotate_left
  · (intro w1 hS; go_simp; try with_reducible rfl)
  simp only [Act.put, List.setIfInBounds_toArray, List.set_cons_zero, List.set_cons_succ]
  refine wpAnyH_take (i := 51) (oi := { dst := some 110, op := Op.move (Operand.tmp 18), type := 4, pos := "law.go:33", after := #[{ on := 49, ground := Ground.guard }], guard := some (49, true) }) (v := ?_) rfl (by kernel_rfl) (by kernel_rfl) (by kernel_rfl) (fun _ _ _ h => h) (Or.inl ⟨by rfl, ?_⟩) (Below.refl _ _) ?_
  rotate_left
  · (intro w1 hS; go_simp; try with_reducible rfl)
  simp only [Act.put, List.setIfInBounds_toArray, List.set_cons_zero, List.set_cons_succ]
  refine wpAnyH_take (i := 52) (oi := { dst := some 111, op := Op.binOp BinOp.eql 4 (Operand.tmp 109) (Operand.tmp 110) 4, type := 4, pos := "law.go:33", after := #[{ on := 50, ground := Ground.data }, { on := 51, ground := Ground.data }, { on := 49, ground := Ground.guard }], guard := some (49, true) }) (v := ?_) rfl (by kernel_rfl) (by kernel_rfl) (by kernel_rfl) (fun _ _ _ h => h) (Or.inl ⟨by rfl, ?_⟩) (Below.refl _ _) ?_
  rotate_left
  · (intro w1 hS; go_simp; try with_reducible rfl)
  simp only [Act.put, List.setIfInBounds_toArray, List.set_cons_zero, List.set_cons_succ]
  refine wpAnyH_take (i := 53) (oi := { dst := some 112, op := Op.pick (Operand.tmp 108) (Operand.tmp 111) (Operand.const (Value.bool false)), type := 4, pos := "law.go:33", after := #[{ on := 49, ground := Ground.data }, { on := 52, ground := Ground.data }], guard := none }) (v := ?_) rfl (by kernel_rfl) (by kernel_rfl) (by kernel_rfl) (fun _ _ _ h => h) (Or.inl ⟨by rfl, ?_⟩) (Below.refl _ _) ?_
  rotate_left
  · (intro w1 hS; go_simp; try with_reducible rfl)
  simp only [Act.put, List.setIfInBounds_toArray, List.set_cons_zero, List.set_cons_succ]
  refine wpAnyH_take (i := 54) (oi := { dst := some 113, op := Op.move (Operand.tmp 112), type := 4, pos := "law.go:33", after := #[{ on := 53, ground := Ground.data }, { on := 49, ground := Ground.chain }], guard := none }) (v := ?_) rfl (by kernel_rfl) (by kernel_rfl) (by kernel_rfl) (fun _ _ _ h => h) (Or.inl ⟨by rfl, ?_⟩) (Below.refl _ _) ?_
  rotate_left
  · (intro w1 hS; go_simp; try with_reducible rfl)
  simp only [Act.put, List.setIfInBounds_toArray, List.set_cons_zero, List.set_cons_succ]
  refine wpAnyH_ready (rs := [55]) (by kernel_rfl) (by simp) ?_
  refine AllReadyH.cons (o := { dst := some 114, op := Op.call { callee := Callee.value (Operand.func 8), args := #[], argTypes := #[] }, type := 4, pos := "law.go:33", after := #[{ on := 54, ground := Ground.chain }, { on := 54, ground := Ground.guard }], guard := some (54, true) }) rfl (fun KK hK => ?_) AllReadyH.nil
  go_simp
  refine (awake_any Y7x2).mono ?_
  rintro e Y7x3 ⟨rfl, hy⟩
  have E3 := Lib.hid (E2.out.trans (hy.mono E2.out.size))
  have C3 := Lib.hid hy
  clear hy E2
  refine hK.out _ _ C3.out (fun _ => ?_)
  clear hK KK
  refine wpAnyH_mono (S' := (fun w' : World => Below Y7x3.heap.size Y7x3 w')) (fun w1 h => C3.out.trans (h.mono C3.out.size)) _ _ _ _ ?_
  clear C3
  try simp only [Act.put, List.setIfInBounds_toArray, List.set_cons_zero, List.set_cons_succ]
  refine wpAnyH_take (i := 56) (oi := { dst := some 115, op := Op.pick (Operand.tmp 113) (Operand.tmp 114) (Operand.const (Value.bool false)), type := 4, pos := "law.go:33", after := #[{ on := 54, ground := Ground.data }, { on := 55, ground := Ground.data }], guard := none }) (v := ?_) rfl (by kernel_rfl) (by kernel_rfl) (by kernel_rfl) (fun _ _ _ h => h) (Or.inl ⟨by rfl, ?_⟩) (Below.refl _ _) ?_
  rotate_left
  · (intro w1 hS; go_simp; try with_reducible rfl)
  simp only [Act.put, List.setIfInBounds_toArray, List.set_cons_zero, List.set_cons_succ]
  refine wpAnyH_take (i := 57) (oi := { dst := some 10, op := Op.assign (Operand.tmp 115), type := 4, pos := "law.go:33", after := #[{ on := 56, ground := Ground.data }, { on := 55, ground := Ground.chain }, { on := 0, ground := Ground.phase }, { on := 1, ground := Ground.phase }, { on := 2, ground := Ground.phase }, { on := 3, ground := Ground.phase }, { on := 4, ground := Ground.phase }, { on := 5, ground := Ground.phase }, { on := 6, ground := Ground.phase }, { on := 7, ground := Ground.phase }, { on := 8, ground := Ground.phase }, { on := 9, ground := Ground.phase }, { on := 10, ground := Ground.phase }, { on := 11, ground := Ground.phase }, { on := 12, ground := Ground.phase }, { on := 13, ground := Ground.phase }, { on := 14, ground := Ground.phase }, { on := 15, ground := Ground.phase }, { on := 16, ground := Ground.phase }, { on := 17, ground := Ground.phase }, { on := 18, ground := Ground.phase }, { on := 19, ground := Ground.phase }, { on := 20, ground := Ground.phase }, { on := 21, ground := Ground.phase }, { on := 22, ground := Ground.phase }, { on := 23, ground := Ground.phase }, { on := 24, ground := Ground.phase }, { on := 25, ground := Ground.phase }, { on := 26, ground := Ground.phase }, { on := 27, ground := Ground.phase }, { on := 28, ground := Ground.phase }, { on := 29, ground := Ground.phase }, { on := 30, ground := Ground.phase }, { on := 31, ground := Ground.phase }, { on := 32, ground := Ground.phase }, { on := 33, ground := Ground.phase }, { on := 34, ground := Ground.phase }, { on := 35, ground := Ground.phase }, { on := 36, ground := Ground.phase }, { on := 37, ground := Ground.phase }, { on := 38, ground := Ground.phase }, { on := 39, ground := Ground.phase }, { on := 40, ground := Ground.phase }, { on := 41, ground := Ground.phase }, { on := 42, ground := Ground.phase }, { on := 43, ground := Ground.phase }, { on := 44, ground := Ground.phase }, { on := 45, ground := Ground.phase }, { on := 46, ground := Ground.phase }, { on := 47, ground := Ground.phase }, { on := 48, ground := Ground.phase }, { on := 49, ground := Ground.phase }, { on := 50, ground := Ground.phase }, { on := 51, ground := Ground.phase }, { on := 52, ground := Ground.phase }, { on := 53, ground := Ground.phase }, { on := 54, ground := Ground.phase }, { on := 55, ground := Ground.phase }, { on := 56, ground := Ground.phase }], guard := none }) (v := ?_) rfl (by kernel_rfl) (by kernel_rfl) (by kernel_rfl) (fun _ _ _ h => h) (Or.inl ⟨by rfl, ?_⟩) (Below.refl _ _) ?_
  rotate_left
  · (intro w1 hS; go_simp; try with_reducible rfl)
  simp only [Act.put, List.setIfInBounds_toArray, List.set_cons_zero, List.set_cons_succ]
  refine wpAnyH_done (by kernel_rfl) ?_ _
  have hy := E3.out
  replace K := Lib.hid (K.out.trans (hy.mono K.out.size))
  replace N1 := Lib.hid (N1.out.below hy N1.out.lt)
  replace N2 := Lib.hid (N2.out.below hy N2.out.lt)
  replace NH := Lib.hid (NH.out.below hy NH.out.lt)
  replace NR := Lib.hid (NR.out.below hy NR.out.lt)
  replace M1 := Lib.hid (M1.out.below hy)
  replace M2 := Lib.hid (M2.out.below hy)
  clear hy E3
  go_wp2
  go_ret
  exact ⟨rfl, K.out⟩
end Go.Proofs.Ytnfanenaighflaa

/- An address that came in, opened. -/
namespace Go.Proofs.Ytnfanenaighflaa
open Go.ChangeShapes Go.WideShapes Go.ChangeAt Go.RowKit

theorem open_addr {H : Type} {enc : TypeId × Value → H} {W : World} {base b0 : Nat} {spare : Nat → Bool} {held : Bool} {r : Reach} {v : Value} {d : DataW H} {p : List MemPlace}
    (hv : Value.okWide Try.prog W r b0 25 v) (h : DataW.Trod enc Try.prog W base spare held 25 v d p) : ∃ b bs, v = adr b bs ∧ bs.length = 16 ∧ ∀ n ∈ bs, n < 256 := by
  obtain ⟨cs, rfl, hsz⟩ := okWide_struct Try.underlying25 hv
  have hC : Try.prog.cellsOf 25 = 17 := by kernel_rfl
  obtain ⟨fuel, hf⟩ := h
  obtain ⟨y0, y1, n, _, hl, h0, h1⟩ := trod_struct2 Try.underlying25 hf
  have hc4 : Try.prog.cellsOf 4 = 1 := by kernel_rfl
  have hc5 : Try.prog.cellsOf 5 = 1 := by kernel_rfl
  have hc22 : Try.prog.cellsOf 23 = 16 := by kernel_rfl
  rw [hC] at hl
  obtain ⟨l⟩ := cs
  have hl : l.length = 17 := hl
  have h0 : DataW.trod enc Try.prog W base spare held n 4 ((l.drop 0).take (Try.prog.cellsOf 4)) = some y0 := h0
  have h1 : DataW.trod enc Try.prog W base spare held n 23 ((l.drop 1).take (Try.prog.cellsOf 23)) = some y1 := h1
  rw [hc4] at h0
  rw [hc22] at h1
  obtain ⟨b, e0, _⟩ := DataW.trod_bool Try.underlying4 h0
  obtain ⟨xs, m, _, _, hl1, hx, hi⟩ := DataW.trod_array Try.underlying23 h1
  match l, hl with
  | c :: r, hl =>
    simp only [List.length_cons] at hl
    have hl : r.length = 16 := by omega
    have e0 : c = .bool b := by simpa using e0
    subst e0
    have hrr : List.take 16 (List.drop 1 (Value.bool b :: r)) = r := by simp [List.take_of_length_le (Nat.le_of_eq hl)]
    rw [hrr] at hi
    have hn : ∀ i, i < 16 → ∃ z : Nat, r[i]? = some (.int .u8 (z : Int)) ∧ z < 256 := fun i hi16 => by
      have h := hi i hi16
      rw [hc5, Nat.mul_one] at h
      rw [List.getElem?_eq_getElem (by omega)] at h
      obtain ⟨z, ez, _, hw⟩ := DataW.trod_int Try.underlying5 h
      obtain ⟨z0, z1⟩ := wf_u8 z hw
      have e : r[i]? = some (.int .u8 z) := by
        have := congrArg (·[0]?) ez
        simpa [List.getElem?_take, List.getElem?_drop] using this
      refine ⟨z.toNat, ?_, by omega⟩
      rw [e, Int.toNat_of_nonneg z0]
    refine ⟨b, r.map fun x => match x with | .int _ z => z.toNat | _ => 0, ?_, by simpa using hl, ?_⟩
    · unfold adr cellsA
      congr 3
      rw [List.map_map]
      refine (List.map_id r).symm.trans (List.map_congr_left fun x hx => ?_)
      obtain ⟨i, hi', ex⟩ := List.mem_iff_getElem.1 hx
      obtain ⟨z, ez, _⟩ := hn i (by omega)
      rw [List.getElem?_eq_getElem hi', ex] at ez
      obtain rfl := Option.some.inj ez
      simp
    · intro q hq
      obtain ⟨x, hx, rfl⟩ := List.mem_map.1 hq
      obtain ⟨i, hi', ex⟩ := List.mem_iff_getElem.1 hx
      obtain ⟨z, ez, hz⟩ := hn i (by omega)
      rw [List.getElem?_eq_getElem hi', ex] at ez
      obtain rfl := Option.some.inj ez
      simpa using hz
end Go.Proofs.Ytnfanenaighflaa

