/- Texts that the walks of this seat lean on, put together. -/
import Derived.StillTailTactics
import Derived.Deep.CutBlock
import Derived.Deep.DeepCutAuto
import Derived.LoopTactic
import Derived.Handy
import Derived.Test.YthldpnifodbheaaTk
import Derived.Test.YthldpnifodbheaaTl
import Derived.Test.YthldpnifodbheaaM03
import Derived.Test.YthldpnifodbheaaM11
import Derived.Test.YthldpnifodbheaaM12
import Derived.Test.YthldpnifodbheaaM14
import Derived.Test.YthldpnifodbheaaM17
import Derived.Test.YthldpnifodbheaaM19
import Derived.Test.YthldpnifodbheaaM20
import Derived.Test.YthldpnifodbheaaM21
namespace Go.Proofs.Ythldpnifodbheaa
open Go.RowKit Go.Lib
set_option maxRecDepth 100000 in
theorem i70 : (Try.prog.info? 107).map (·.size) = some 256 := by kernel_rfl
set_option maxRecDepth 100000 in
theorem bK_ne {k : Fl} (h : vK k = true) : 0 < (bK k).length := by rw [bK_yes h]; unfold bR; simp
set_option maxRecDepth 100000 in
theorem knT_info (i : Nat) : (Try.prog.info? 107).map (·.size) = some (tcs (knT i)).toList.length := i70.trans (congrArg some (by rw [Array.length_toList, tcs_size, knT_len]))
set_option maxRecDepth 100000 in
set_option maxHeartbeats 4000000 in
theorem row_no (k : Fl) (hk : k.Fit) (hv : vK k = false) (g : Nat) (w : World) : Calls Try.prog 53 #[.pointer (some ⟨g, 0, none⟩), .agg k.cs] w fun e w' => e = .returned (.slice none 0 0) ∧ Below w.heap.size w w' := by
  have K := lh (Below.refl w.heap.size w)
  have CB := lh (fun W => kbytes_no k hk hv W)
  clear hv
  obtain ⟨a0, a1, a18, a35, a36⟩ := fl_get k hk
  have G0 := lh a0
  have G1 := lh a1
  have G18 := lh a18
  have G35 := lh a35
  have G36 := lh a36
  have KP1 := lh (fl_src k)
  have KP2 := lh (fl_dst k hk)
  have IS := lh (fl_is k hk)
  have ID := lh (fl_id k hk)
  have IK := lh (fl_ik k hk)
  clear a0 a1 a18 a35 a36
  generalize k.cs = kc at *
  generalize cellsA k.sv k.S = S at *
  generalize cellsA k.dv k.D = D at *
  generalize k.p = p at *
  generalize k.sv = sv at *
  generalize k.dv = dv at *
  generalize k.sp = sp at *
  generalize k.dp = dp at *
  clear hk
  go_enter Try.func53, Try.ntmps53
  have hal := (Below.refl w.heap.size w).alloc (Nat.le_refl _) (.cells kc 42)
  replace K := lh (K.out.trans (hal.mono K.out.size))
  have N := lh (Blk.new w 42 kc)
  clear hal
  have L1 : (loadVar 42 ⟨w.heap.size, 0, none⟩).run Try.prog (w.alloc (.cells kc 42)) = .ok (.agg kc) (w.alloc (.cells kc 42)) := run_blk_load (P := Try.prog) 42 (w.heap.size) _ N.out Try.underlying42 rfl IK.out
  replace L1 := lh L1
  go_wp2_with (((with_reducible refine wpList_load_want (op := ⟨some 7, .load 42 (.tmp 3), _, _, _, _⟩) ?wg1 42 (.tmp 3) ?wo1 ⟨w.heap.size, 0, none⟩ ?wx1 (.agg kc) L1.out ?_); (case wg1 => rfl); (case wo1 => rfl); (case wx1 => rfl)))
  clear L1
  have hzV1 : Hid ((w.alloc (.cells kc 42)).heap.size = w.heap.size + 1) := by show _ = _; simp only [World.size_alloc]
  generalize (w.alloc (.cells kc 42)) = V1 at *
  refine (CB.out V1).mono ?_
  rintro e V2 ⟨rfl, hy⟩
  replace K := lh (K.out.trans (hy.mono K.out.size))
  replace N := lh (N.out.below hy N.out.lt)
  clear hy
  go_wp2
  go_ret
  exact ⟨rfl, K.out⟩
set_option maxRecDepth 100000 in
set_option maxHeartbeats 4000000 in
theorem row_yes (k : Fl) (hk : k.Fit) (hv : vK k = true) (g : Nat) (w : World) : Calls Try.prog 53 #[.pointer (some ⟨g, 0, none⟩), .agg k.cs] w fun e w' => ∃ b o c, e = .returned (.slice (some ⟨b, o, none⟩) (bK k).length c) ∧ Rd w' (.slice (some ⟨b, o, none⟩) (bK k).length c) (nus .u8 (bK k)) ∧ Below w.heap.size w w' := by
  have K := lh (Below.refl w.heap.size w)
  have CB := lh (fun W => kbytes_yes k hk hv W)
  have HNE := lh (bK_ne hv)
  clear hv
  obtain ⟨a0, a1, a18, a35, a36⟩ := fl_get k hk
  have G0 := lh a0
  have G1 := lh a1
  have G18 := lh a18
  have G35 := lh a35
  have G36 := lh a36
  have KP1 := lh (fl_src k)
  have KP2 := lh (fl_dst k hk)
  have IS := lh (fl_is k hk)
  have ID := lh (fl_id k hk)
  have IK := lh (fl_ik k hk)
  clear a0 a1 a18 a35 a36
  generalize k.cs = kc at *
  generalize cellsA k.sv k.S = S at *
  generalize cellsA k.dv k.D = D at *
  generalize k.p = p at *
  generalize k.sv = sv at *
  generalize k.dv = dv at *
  generalize k.sp = sp at *
  generalize k.dp = dp at *
  clear hk
  go_enter Try.func53, Try.ntmps53
  have hal := (Below.refl w.heap.size w).alloc (Nat.le_refl _) (.cells kc 42)
  replace K := lh (K.out.trans (hal.mono K.out.size))
  have N := lh (Blk.new w 42 kc)
  clear hal
  have L2 : (loadVar 42 ⟨w.heap.size, 0, none⟩).run Try.prog (w.alloc (.cells kc 42)) = .ok (.agg kc) (w.alloc (.cells kc 42)) := run_blk_load (P := Try.prog) 42 (w.heap.size) _ N.out Try.underlying42 rfl IK.out
  replace L2 := lh L2
  go_wp2_with (((with_reducible refine wpList_load_want (op := ⟨some 7, .load 42 (.tmp 3), _, _, _, _⟩) ?wg2 42 (.tmp 3) ?wo2 ⟨w.heap.size, 0, none⟩ ?wx2 (.agg kc) L2.out ?_); (case wg2 => rfl); (case wo2 => rfl); (case wx2 => rfl)))
  clear L2
  have hzV1 : Hid ((w.alloc (.cells kc 42)).heap.size = w.heap.size + 1) := by show _ = _; simp only [World.size_alloc]
  generalize (w.alloc (.cells kc 42)) = V1 at *
  refine (CB.out V1).mono ?_
  rintro e V2 ⟨x, rfl, hx, hy⟩
  replace K := lh (K.out.trans (hy.mono K.out.size))
  replace N := lh (N.out.below hy N.out.lt)
  clear hy
  have X := lh hx
  clear hx
  go_wp2
  go_ret
  obtain ⟨a, c, rfl, -, -⟩ := rd_shape X.out
  obtain ⟨b, o, rfl, -⟩ := X.out.cells HNE.out
  exact ⟨b, o, c, rfl, X.out, K.out⟩
set_option maxRecDepth 100000 in
set_option maxHeartbeats 4000000 in
theorem hash_any (c : Cf) (hc : c.Fit) (n : Nat) (hn : n ≤ 1000) (g : Nat) (v : Value) (bs : List Nat) (hb : ∀ z ∈ bs, z < 256) (w : World) (hF : Blk w g 110 (famC c)) (hv : Rd w v (nus .u8 bs)) :
    Calls Try.prog 76 #[.pointer (some ⟨g, 0, none⟩), v, .int .i64 (n : Int)] w fun e w' => e = .returned (.int .u32 ((hsB c.sd n bs : Nat) : Int)) ∧ Below w.heap.size w w' := by
  obtain ⟨i, hi⟩ : ∃ i, i = n % 4 := ⟨_, rfl⟩
  have hi4 : i < 4 := by omega
  have K := lh (Below.refl w.heap.size w)
  have F := lh hF
  have V := lh hv
  have hkn := (knownC_hi i hi4).2
  have hsd := hc.sd
  have CO := lh (fun W h => of_any (knownC.getD i 0) (sdN c.sd n) hkn (sdN_lt _ _) v bs hb W h)
  have hl := crcC_lt (knownC.getD i 0) (sdN c.sd n) bs hkn (sdN_lt _ _) hb
  have CM := lh (fun W => mix_any _ hl W)
  have HR : hsB c.sd n bs = mixN (crcC (knownC.getD i 0) (sdN c.sd n) bs) := by unfold hsB; rw [hi]
  rw [HR]
  have FP := lh (fam_part c i hi4)
  have FI := lh (knT_info i)
  have FG := lh (fam_get tabs4 c tabs4_len).1
  have hk : tabL (knownC.getD i 0) = knT i := rfl
  rw [hk] at CO
  have tm : (n : Int).tmod 4 = (i : Int) := by rw [Int.tmod_eq_emod_of_nonneg (by omega)]; omega
  obtain ⟨q, hq⟩ : ∃ q, q = 7919 * n := ⟨_, rfl⟩
  have w1 : IntKind.u32.wrap (n : Int) = (n : Int) := by rw [IntKind.wrap_u32]; omega
  have w2 : IntKind.u32.wrap ((n : Int) * 7919) = (q : Int) := by rw [IntKind.wrap_u32]; omega
  have w3 : IntKind.u32.wrap ((c.sd : Int) + (q : Int)) = ((sdN c.sd n : Nat) : Int) := by rw [IntKind.wrap_u32]; unfold sdN; omega
  have i1 : (0 : Int) ≤ (i : Int) := by omega
  have i2 : (i : Int) < 4 := by omega
  generalize mixN (crcC (knownC.getD i 0) (sdN c.sd n) bs) = R at *
  generalize crcC (knownC.getD i 0) (sdN c.sd n) bs = C at *
  generalize sdN c.sd n = sn at *
  generalize knT i = T at *
  change Hid ((famC c)[1024]? = _) at FG
  generalize famC c = fc at *
  generalize c.sd = sd at *
  clear hF hv hc hkn hl HR hk hq hsd hi hb
  go_enter Try.func76, Try.ntmps76
  go_wp2_with fail
  refine wp_region_still_tail 16 (by kernel_rfl) (by kernel_rfl) ?_
  change wpStill _ _ w.drew (fun a' => wpList _ _ _ _ a' w.drew) _ _
  have hy := (Below.refl w.heap.size w).drew
  replace K := lh (K.out.trans (hy.mono K.out.size))
  replace F := lh (F.out.below hy F.out.lt)
  replace V := lh (V.out.below hy)
  clear hy
  generalize w.drew = V1 at *
  have c16 := (F.out.cell 1024).trans FG.out
  simp only [List.take_succ_cons, List.take_zero, List.drop_succ_cons, List.drop_zero]
  still_step
  still_step
  still_step
  still_step
  still_step
  still_step
  refine wpStill_step (fun KK hK => ?_)
  rw [if_pos (by rfl)]
  refine still_load 107 (.tmp 12) rfl ⟨g, i * 256, none⟩ ?h1 (.agg (tcs T)) ?h2 (hK _ ?_)
  case h1 => rfl
  case h2 => have h := run_part_load (P := Try.prog) 107 (256 * i) (tcs T).toList _ F.out FP.out Try.underlying107 rfl FI.out; rwa [Array.toArray_toList, Nat.mul_comm] at h
  clear hK KK
  still_step
  still_step
  still_step
  still_step
  still_step
  still_step
  still_step
  still_step
  still_step
  refine wpStill_nil ?_
  try simp only [Act.put, tS1, tS2, tS3]
  go_wp2_with fail
  refine (CO.out V1 V.out).mono ?_
  rintro e V2 ⟨rfl, hy⟩
  replace K := lh (K.out.trans (hy.mono K.out.size))
  replace F := lh (F.out.below hy F.out.lt)
  replace V := lh (V.out.below hy)
  clear hy
  go_wp2_with fail
  refine (same_below (CM.out V2)).mono ?_
  rintro e V3 ⟨rfl, hy⟩
  replace K := lh (K.out.trans (hy.mono K.out.size))
  replace F := lh (F.out.below hy F.out.lt)
  replace V := lh (V.out.below hy)
  clear hy
  go_wp2
  go_ret
  exact ⟨rfl, K.out⟩
set_option maxRecDepth 100000 in
set_option maxHeartbeats 4000000 in
theorem below_any (c : Cf) (hc : c.Fit) (n : Nat) (hn : n ≤ 1000) (m : Nat) (hm : 0 < m) (hm2 : m < 9223372036854775808) (g : Nat) (v : Value) (bs : List Nat) (hb : ∀ z ∈ bs, z < 256) (w : World) (hF : Blk w g 110 (famC c)) (hv : Rd w v (nus .u8 bs)) :
    Calls Try.prog 54 #[.pointer (some ⟨g, 0, none⟩), v, .int .i64 (n : Int), .int .i64 (m : Int)] w fun e w' => e = .returned (.int .i64 ((hsB c.sd n bs % m : Nat) : Int)) ∧ Below w.heap.size w w' := by
  have K := lh (Below.refl w.heap.size w)
  have F := lh hF
  have V := lh hv
  have CH := lh (fun W h1 h2 => hash_any c hc n hn g v bs hb W h1 h2)
  have hl := hsB_lt c.sd n bs
  generalize hsB c.sd n bs = H at *
  have w1 : IntKind.u64.wrap (H : Int) = (H : Int) := by rw [IntKind.wrap_u64]; omega
  have w2 : IntKind.u64.wrap (m : Int) = (m : Int) := by rw [IntKind.wrap_u64]; omega
  have hr := Nat.mod_lt H hm
  have h0 : ((m : Int) == 0) = false := by rw [beq_eq_false_iff_ne]; omega
  have h1 : (m : Int) ≠ 0 := by omega
  have tm : (H : Int).tmod (m : Int) = ((H % m : Nat) : Int) := by rw [Int.tmod_eq_emod_of_nonneg (by omega)]; exact (Int.natCast_emod H m).symm
  generalize H % m = r at *
  have w3 : IntKind.u64.wrap (r : Int) = (r : Int) := by rw [IntKind.wrap_u64]; omega
  have w4 : IntKind.i64.wrap (r : Int) = (r : Int) := by rw [IntKind.wrap_i64]; omega
  clear hF hv hc hb hl
  go_enter Try.func54, Try.ntmps54
  go_wp2_with fail
  refine (CH.out w F.out V.out).mono ?_
  rintro e V1 ⟨rfl, hy⟩
  replace K := lh (K.out.trans (hy.mono K.out.size))
  replace F := lh (F.out.below hy F.out.lt)
  replace V := lh (V.out.below hy)
  clear hy
  go_wp2
  go_ret
  exact ⟨rfl, K.out⟩
end Go.Proofs.Ythldpnifodbheaa
namespace Go.Proofs.Ythldpnifodbheaa
open Go.RowKit Go.Lib
set_option maxRecDepth 100000 in
theorem eqn_nil (W : World) : (binOp .eql 124 (.slice none 0 0) (.slice none 0 0)).run Try.prog W = .ok (.bool true) W := by kernel_rfl
set_option maxRecDepth 100000 in
theorem eqn_some (p : Addr) (n c : Nat) (W : World) : (binOp .eql 124 (.slice (some p) n c) (.slice none 0 0)).run Try.prog W = .ok (.bool false) W := by kernel_rfl
set_option maxRecDepth 100000 in
theorem ZY : Hid ((#[.int .i64 0, .int .i64 0] : Array Value).size = (#[.int .i64 0, .int .i64 0] : Array Value).size) := rfl
set_option maxRecDepth 100000 in
theorem i41 : (Try.prog.info? 51).map (·.size) = some 2 := by kernel_rfl
set_option maxRecDepth 100000 in
theorem okC_st {c : Cf} (h : okC c = true) : 1 ≤ c.st ∧ c.st ≤ 4 := by
  unfold okC wi at h
  simp only [Bool.and_eq_true, decide_eq_true_iff] at h
  omega
set_option maxRecDepth 100000 in
theorem okC_sz {c : Cf} (h : okC c = true) : 2 ≤ c.sz ∧ c.sz ≤ 1024 := by
  unfold okC pw wi at h
  simp only [Bool.and_eq_true, decide_eq_true_iff] at h
  omega
set_option maxRecDepth 100000 in
theorem okC_dg {c : Cf} (h : okC c = true) : 1 ≤ c.dg ∧ c.dg ≤ 16 := by
  unfold okC wi at h
  simp only [Bool.and_eq_true, decide_eq_true_iff] at h
  omega
set_option maxRecDepth 100000 in
set_option maxHeartbeats 4000000 in
theorem place_no (c : Cf) (k : Fl) (hk : k.Fit) (hv : vK k = false) (s : Int) (g : Nat) (w : World) (hF : Blk w g 110 (famC c)) :
    Calls Try.prog 63 #[.pointer (some ⟨g, 0, none⟩), .agg k.cs, .int .i64 s] w fun e w' => e = .returned (.tuple #[.agg #[.int .i64 0, .int .i64 0], .bool false]) ∧ Below w.heap.size w w' := by
  have K := lh (Below.refl w.heap.size w)
  have F := lh hF
  have CR := lh (fun W => row_no k hk hv g W)
  obtain ⟨-, f1, f2, -, -, -⟩ := fam_get tabs4 c tabs4_len
  have FS := lh f1
  have FZ := lh f2
  change Hid ((famC c)[1025]? = _) at FS
  change Hid ((famC c)[1026]? = _) at FZ
  obtain ⟨a0, a1, a18, a35, a36⟩ := fl_get k hk
  have G0 := lh a0
  have G1 := lh a1
  have G18 := lh a18
  have G35 := lh a35
  have G36 := lh a36
  have KP1 := lh (fl_src k)
  have KP2 := lh (fl_dst k hk)
  have IS := lh (fl_is k hk)
  have ID := lh (fl_id k hk)
  have IK := lh (fl_ik k hk)
  clear a0 a1 a18 a35 a36
  generalize k.cs = kc at *
  generalize cellsA k.sv k.S = S at *
  generalize cellsA k.dv k.D = D at *
  generalize k.p = p at *
  generalize k.sv = sv at *
  generalize k.dv = dv at *
  generalize k.sp = sp at *
  generalize k.dp = dp at *
  generalize famC c = fc at *
  generalize c.st = st at *
  generalize c.sz = sz at *
  have ZZ : Hid ((Try.prog.info? 51).map (·.size) = some (#[.int .i64 0, .int .i64 0] : Array Value).size) := i41
  have ZA : Hid ((#[.int .i64 0, .int .i64 0] : Array Value).all (·.oneCell') = true) := by show _ = true; simp [Value.oneCell']
  have hgl : g < w.heap.size := hF.lt
  clear hF hk f1 f2 hv
  go_enter Try.func63, Try.ntmps63
  have hal := (Below.refl w.heap.size w).alloc (Nat.le_refl _) (.cells kc 42)
  replace K := lh (K.out.trans (hal.mono K.out.size))
  replace F := lh (F.out.below hal F.out.lt)
  have N := lh (Blk.new w 42 kc)
  clear hal
  have hal := (Below.refl (w.alloc (.cells kc 42)).heap.size (w.alloc (.cells kc 42))).alloc (Nat.le_refl _) (.cells #[.int .i64 0, .int .i64 0] 51)
  replace K := lh (K.out.trans (hal.mono K.out.size))
  replace F := lh (F.out.below hal F.out.lt)
  replace N := lh (N.out.below hal N.out.lt)
  have Pq := Blk.new (w.alloc (.cells kc 42)) 51 #[.int .i64 0, .int .i64 0]
  simp only [World.size_alloc] at Pq
  have P := lh Pq
  clear Pq
  clear hal
  have L1 : (loadVar 42 ⟨w.heap.size, 0, none⟩).run Try.prog ((w.alloc (.cells kc 42)).alloc (.cells #[.int .i64 0, .int .i64 0] 51)) = .ok (.agg kc) ((w.alloc (.cells kc 42)).alloc (.cells #[.int .i64 0, .int .i64 0] 51)) := run_blk_load (P := Try.prog) 42 (w.heap.size) _ N.out Try.underlying42 rfl IK.out
  replace L1 := lh L1
  go_wp2_with (((with_reducible refine wpList_load_want (op := ⟨some 10, .load 42 (.tmp 4), _, _, _, _⟩) ?wg1 42 (.tmp 4) ?wo1 ⟨w.heap.size, 0, none⟩ ?wx1 (.agg kc) L1.out ?_); (case wg1 => rfl); (case wo1 => rfl); (case wx1 => rfl)))
  clear L1
  have hzV1 : Hid (((w.alloc (.cells kc 42)).alloc (.cells #[.int .i64 0, .int .i64 0] 51)).heap.size = w.heap.size + 1 + 1) := by show _ = _; simp only [World.size_alloc]
  generalize ((w.alloc (.cells kc 42)).alloc (.cells #[.int .i64 0, .int .i64 0] 51)) = V1 at *
  refine (CR.out V1).mono ?_
  rintro e V2 ⟨rfl, hy⟩
  replace K := lh (K.out.trans (hy.mono K.out.size))
  replace F := lh (F.out.below hy F.out.lt)
  replace N := lh (N.out.below hy N.out.lt)
  replace P := lh (P.out.below hy P.out.lt)
  clear hy
  have hqn := eqn_nil
  go_wp2_with (((with_reducible refine wpList_blk_store (op := ⟨none, .store 51 (.tmp 6) (.tmp 26), _, _, _, _⟩) ?sg2 51 (.tmp 6) (.tmp 26) ?so2 ((w.heap.size + 1)) #[.int .i64 0, .int .i64 0] ?sx2 ?sy2 P.out ZY.out ZZ.out ZA.out ?_); (case sg2 => rfl); (case so2 => rfl); (case sx2 => rfl); (case sy2 => rfl)))
  intro V3 hA hF hB
  replace K := lh (K.out.trans (hB _ (by omega)))
  replace F := lh (show Blk _ _ _ _ from (hF _ (by omega)).trans F.out)
  replace N := lh (show Blk _ _ _ _ from (hF _ (by omega)).trans N.out)
  replace P := lh hA
  clear hA hF hB
  go_wp2
  have hrun := run_blk_load (P := Try.prog) 51 (w.heap.size + 1) _ P.out Try.underlying51 rfl ZZ.out
  exact bodyPost_ret (results_cell_tmp 6 51 7 (w.heap.size + 1) _ Try.results63 rfl hrun) rfl ⟨rfl, K.out⟩
set_option maxRecDepth 100000 in
set_option maxHeartbeats 4000000 in
theorem place_high (c : Cf) (k : Fl) (hk : k.Fit) (hv : vK k = true) (s : Int) (hs : ¬ s < 0 ∧ s ≥ c.st) (g : Nat) (w : World) (hF : Blk w g 110 (famC c)) :
    Calls Try.prog 63 #[.pointer (some ⟨g, 0, none⟩), .agg k.cs, .int .i64 s] w fun e w' => e = .returned (.tuple #[.agg #[.int .i64 0, .int .i64 0], .bool false]) ∧ Below w.heap.size w w' := by
  have K := lh (Below.refl w.heap.size w)
  have F := lh hF
  have CR := lh (fun W => row_yes k hk hv g W)
  have HL := lh (bK_ne hv)
  have d1 : decide (s < 0) = false := decide_eq_false hs.1
  have d2 : decide (s ≥ c.st) = true := decide_eq_true hs.2
  obtain ⟨-, f1, f2, -, -, -⟩ := fam_get tabs4 c tabs4_len
  have FS := lh f1
  have FZ := lh f2
  change Hid ((famC c)[1025]? = _) at FS
  change Hid ((famC c)[1026]? = _) at FZ
  obtain ⟨a0, a1, a18, a35, a36⟩ := fl_get k hk
  have G0 := lh a0
  have G1 := lh a1
  have G18 := lh a18
  have G35 := lh a35
  have G36 := lh a36
  have KP1 := lh (fl_src k)
  have KP2 := lh (fl_dst k hk)
  have IS := lh (fl_is k hk)
  have ID := lh (fl_id k hk)
  have IK := lh (fl_ik k hk)
  clear a0 a1 a18 a35 a36
  generalize bK k = bs at *
  generalize k.cs = kc at *
  generalize cellsA k.sv k.S = S at *
  generalize cellsA k.dv k.D = D at *
  generalize k.p = p at *
  generalize k.sv = sv at *
  generalize k.dv = dv at *
  generalize k.sp = sp at *
  generalize k.dp = dp at *
  generalize famC c = fc at *
  generalize c.st = st at *
  generalize c.sz = sz at *
  have ZZ : Hid ((Try.prog.info? 51).map (·.size) = some (#[.int .i64 0, .int .i64 0] : Array Value).size) := i41
  have ZA : Hid ((#[.int .i64 0, .int .i64 0] : Array Value).all (·.oneCell') = true) := by show _ = true; simp [Value.oneCell']
  have hgl : g < w.heap.size := hF.lt
  clear hF hk f1 f2 hv hs
  go_enter Try.func63, Try.ntmps63
  have hal := (Below.refl w.heap.size w).alloc (Nat.le_refl _) (.cells kc 42)
  replace K := lh (K.out.trans (hal.mono K.out.size))
  replace F := lh (F.out.below hal F.out.lt)
  have N := lh (Blk.new w 42 kc)
  clear hal
  have hal := (Below.refl (w.alloc (.cells kc 42)).heap.size (w.alloc (.cells kc 42))).alloc (Nat.le_refl _) (.cells #[.int .i64 0, .int .i64 0] 51)
  replace K := lh (K.out.trans (hal.mono K.out.size))
  replace F := lh (F.out.below hal F.out.lt)
  replace N := lh (N.out.below hal N.out.lt)
  have Pq := Blk.new (w.alloc (.cells kc 42)) 51 #[.int .i64 0, .int .i64 0]
  simp only [World.size_alloc] at Pq
  have P := lh Pq
  clear Pq
  clear hal
  have L5 : (loadVar 42 ⟨w.heap.size, 0, none⟩).run Try.prog ((w.alloc (.cells kc 42)).alloc (.cells #[.int .i64 0, .int .i64 0] 51)) = .ok (.agg kc) ((w.alloc (.cells kc 42)).alloc (.cells #[.int .i64 0, .int .i64 0] 51)) := run_blk_load (P := Try.prog) 42 (w.heap.size) _ N.out Try.underlying42 rfl IK.out
  replace L5 := lh L5
  go_wp2_with (((with_reducible refine wpList_load_want (op := ⟨some 10, .load 42 (.tmp 4), _, _, _, _⟩) ?wg5 42 (.tmp 4) ?wo5 ⟨w.heap.size, 0, none⟩ ?wx5 (.agg kc) L5.out ?_); (case wg5 => rfl); (case wo5 => rfl); (case wx5 => rfl)))
  clear L5
  have hzV1 : Hid (((w.alloc (.cells kc 42)).alloc (.cells #[.int .i64 0, .int .i64 0] 51)).heap.size = w.heap.size + 1 + 1) := by show _ = _; simp only [World.size_alloc]
  generalize ((w.alloc (.cells kc 42)).alloc (.cells #[.int .i64 0, .int .i64 0] 51)) = V1 at *
  refine (CR.out V1).mono ?_
  rintro e V2 ⟨b, o, cp, rfl, hx, hy⟩
  replace K := lh (K.out.trans (hy.mono K.out.size))
  replace F := lh (F.out.below hy F.out.lt)
  replace N := lh (N.out.below hy N.out.lt)
  replace P := lh (P.out.below hy P.out.lt)
  have X := lh (hx)
  clear hx
  clear hy
  have hqn := eqn_some
  have HQ := HL.out
  have L6 := (F.out.cell 1025).trans FS.out
  go_wp2_with (((with_reducible refine wpList_blk_store (op := ⟨none, .store 51 (.tmp 6) (.tmp 26), _, _, _, _⟩) ?sg7 51 (.tmp 6) (.tmp 26) ?so7 ((w.heap.size + 1)) #[.int .i64 0, .int .i64 0] ?sx7 ?sy7 P.out ZY.out ZZ.out ZA.out ?_); (case sg7 => rfl); (case so7 => rfl); (case sx7 => rfl); (case sy7 => rfl)))
  clear L6
  intro V3 hA hF hB
  replace K := lh (K.out.trans (hB _ (by omega)))
  replace F := lh (show Blk _ _ _ _ from (hF _ (by omega)).trans F.out)
  replace N := lh (show Blk _ _ _ _ from (hF _ (by omega)).trans N.out)
  replace P := lh hA
  clear hA hF hB
  go_wp2
  have hrun := run_blk_load (P := Try.prog) 51 (w.heap.size + 1) _ P.out Try.underlying51 rfl ZZ.out
  exact bodyPost_ret (results_cell_tmp 6 51 7 (w.heap.size + 1) _ Try.results63 rfl hrun) rfl ⟨rfl, K.out⟩
set_option maxRecDepth 100000 in
set_option maxHeartbeats 4000000 in
theorem place_yes (c : Cf) (hc : c.Fit) (hok : okC c = true) (k : Fl) (hk : k.Fit) (hv : vK k = true) (s : Int) (hs : 0 ≤ s ∧ s < c.st) (g : Nat) (w : World) (hF : Blk w g 110 (famC c)) :
    Calls Try.prog 63 #[.pointer (some ⟨g, 0, none⟩), .agg k.cs, .int .i64 s] w fun e w' => e = .returned (.tuple #[.agg #[.int .i64 s, .int .i64 ((plN c k s.toNat : Nat) : Int)], .bool true]) ∧ Below w.heap.size w w' := by
  have K := lh (Below.refl w.heap.size w)
  have F := lh hF
  have CR := lh (fun W => row_yes k hk hv g W)
  have HL := lh (bK_ne hv)
  have d1 : decide (s < 0) = false := decide_eq_false (by omega)
  have d2 : decide (s ≥ c.st) = false := decide_eq_false (by omega)
  obtain ⟨b1, b2⟩ := okC_st hok
  obtain ⟨b3, b4⟩ := okC_sz hok
  obtain ⟨n, rfl⟩ : ∃ n : Nat, s = (n : Int) := ⟨s.toNat, by omega⟩
  obtain ⟨m, hm⟩ : ∃ m : Nat, c.sz = (m : Int) := ⟨c.sz.toNat, by omega⟩
  have hp : plN c k (Int.toNat (n : Int)) = hsB c.sd n (bK k) % m := by unfold plN hsh; rw [hm, Int.toNat_natCast, Int.toNat_natCast]
  rw [hp]
  have CB := lh (fun v W h1 h2 => below_any c hc n (by omega) m (by omega) (by omega) g v (bK k) (bK_lt k hk) W h1 h2)
  generalize hsB c.sd n (bK k) % m = r at *
  obtain ⟨-, f1, f2, -, -, -⟩ := fam_get tabs4 c tabs4_len
  have FS := lh f1
  have FZ := lh f2
  change Hid ((famC c)[1025]? = _) at FS
  change Hid ((famC c)[1026]? = _) at FZ
  rw [hm] at FZ
  obtain ⟨a0, a1, a18, a35, a36⟩ := fl_get k hk
  have G0 := lh a0
  have G1 := lh a1
  have G18 := lh a18
  have G35 := lh a35
  have G36 := lh a36
  have KP1 := lh (fl_src k)
  have KP2 := lh (fl_dst k hk)
  have IS := lh (fl_is k hk)
  have ID := lh (fl_id k hk)
  have IK := lh (fl_ik k hk)
  clear a0 a1 a18 a35 a36
  generalize bK k = bs at *
  generalize k.cs = kc at *
  generalize cellsA k.sv k.S = S at *
  generalize cellsA k.dv k.D = D at *
  generalize k.p = p at *
  generalize k.sv = sv at *
  generalize k.dv = dv at *
  generalize k.sp = sp at *
  generalize k.dp = dp at *
  generalize famC c = fc at *
  generalize c.st = st at *
  generalize c.sz = sz at *
  have ZZ : Hid ((Try.prog.info? 51).map (·.size) = some (#[.int .i64 0, .int .i64 0] : Array Value).size) := i41
  have ZA : Hid ((#[.int .i64 0, .int .i64 0] : Array Value).all (·.oneCell') = true) := by show _ = true; simp [Value.oneCell']
  have RZ : Hid ((Try.prog.info? 51).map (·.size) = some (#[.int .i64 (n : Int), .int .i64 (r : Int)] : Array Value).size) := i41
  have RA : Hid ((#[.int .i64 (n : Int), .int .i64 (r : Int)] : Array Value).all (·.oneCell') = true) := by show _ = true; simp [Value.oneCell']
  have RY : Hid ((#[.int .i64 (n : Int), .int .i64 (r : Int)] : Array Value).size = (#[.int .i64 0, .int .i64 0] : Array Value).size) := rfl
  have hgl : g < w.heap.size := hF.lt
  clear hF hk f1 f2  hc hok hv b1 b2 b3 b4 hm hp hs
  go_enter Try.func63, Try.ntmps63
  have hal := (Below.refl w.heap.size w).alloc (Nat.le_refl _) (.cells kc 42)
  replace K := lh (K.out.trans (hal.mono K.out.size))
  replace F := lh (F.out.below hal F.out.lt)
  have N := lh (Blk.new w 42 kc)
  clear hal
  have hal := (Below.refl (w.alloc (.cells kc 42)).heap.size (w.alloc (.cells kc 42))).alloc (Nat.le_refl _) (.cells #[.int .i64 0, .int .i64 0] 51)
  replace K := lh (K.out.trans (hal.mono K.out.size))
  replace F := lh (F.out.below hal F.out.lt)
  replace N := lh (N.out.below hal N.out.lt)
  have Pq := Blk.new (w.alloc (.cells kc 42)) 51 #[.int .i64 0, .int .i64 0]
  simp only [World.size_alloc] at Pq
  have P := lh Pq
  clear Pq
  clear hal
  have L8 : (loadVar 42 ⟨w.heap.size, 0, none⟩).run Try.prog ((w.alloc (.cells kc 42)).alloc (.cells #[.int .i64 0, .int .i64 0] 51)) = .ok (.agg kc) ((w.alloc (.cells kc 42)).alloc (.cells #[.int .i64 0, .int .i64 0] 51)) := run_blk_load (P := Try.prog) 42 (w.heap.size) _ N.out Try.underlying42 rfl IK.out
  replace L8 := lh L8
  go_wp2_with (((with_reducible refine wpList_load_want (op := ⟨some 10, .load 42 (.tmp 4), _, _, _, _⟩) ?wg8 42 (.tmp 4) ?wo8 ⟨w.heap.size, 0, none⟩ ?wx8 (.agg kc) L8.out ?_); (case wg8 => rfl); (case wo8 => rfl); (case wx8 => rfl)))
  clear L8
  have hzV1 : Hid (((w.alloc (.cells kc 42)).alloc (.cells #[.int .i64 0, .int .i64 0] 51)).heap.size = w.heap.size + 1 + 1) := by show _ = _; simp only [World.size_alloc]
  generalize ((w.alloc (.cells kc 42)).alloc (.cells #[.int .i64 0, .int .i64 0] 51)) = V1 at *
  refine (CR.out V1).mono ?_
  rintro e V2 ⟨b, o, cp, rfl, hx, hy⟩
  replace K := lh (K.out.trans (hy.mono K.out.size))
  replace F := lh (F.out.below hy F.out.lt)
  replace N := lh (N.out.below hy N.out.lt)
  replace P := lh (P.out.below hy P.out.lt)
  have X := lh (hx)
  clear hx
  clear hy
  have hqn := eqn_some
  have HQ := HL.out
  have L9 := (F.out.cell 1025).trans FS.out
  have L10 := (F.out.cell 1026).trans FZ.out
  go_wp2_with fail
  clear L9 L10
  refine (CB.out _ V2 F.out X.out).mono ?_
  rintro e V3 ⟨rfl, hy⟩
  replace K := lh (K.out.trans (hy.mono K.out.size))
  replace F := lh (F.out.below hy F.out.lt)
  replace N := lh (N.out.below hy N.out.lt)
  replace P := lh (P.out.below hy P.out.lt)
  replace X := lh (X.out.below hy)
  clear hy
  go_wp2_with (((with_reducible refine wpList_blk_store (op := ⟨none, .store 51 (.tmp 6) (.tmp 36), _, _, _, _⟩) ?sg11 51 (.tmp 6) (.tmp 36) ?so11 ((w.heap.size + 1)) #[.int .i64 (n : Int), .int .i64 (r : Int)] ?sx11 ?sy11 P.out RY.out RZ.out RA.out ?_); (case sg11 => rfl); (case so11 => rfl); (case sx11 => rfl); (case sy11 => rfl)))
  intro V4 hA hF hB
  replace K := lh (K.out.trans (hB _ (by omega)))
  replace F := lh (show Blk _ _ _ _ from (hF _ (by omega)).trans F.out)
  replace N := lh (show Blk _ _ _ _ from (hF _ (by omega)).trans N.out)
  replace P := lh hA
  clear hA hF hB
  go_wp2
  have hrun := run_blk_load (P := Try.prog) 51 (w.heap.size + 1) _ P.out Try.underlying51 rfl RZ.out
  exact bodyPost_ret (results_cell_tmp 6 51 7 (w.heap.size + 1) _ Try.results63 rfl hrun) rfl ⟨rfl, K.out⟩
set_option maxRecDepth 100000 in
set_option maxHeartbeats 4000000 in
theorem digest_no (k : Fl) (hk : k.Fit) (hv : vK k = false) (g : Nat) (w : World) :
    Calls Try.prog 29 #[.pointer (some ⟨g, 0, none⟩), .agg k.cs] w fun e w' => e = .returned (.int .u16 0) ∧ Below w.heap.size w w' := by
  have K := lh (Below.refl w.heap.size w)
  have CR := lh (fun W => row_no k hk hv g W)
  obtain ⟨a0, a1, a18, a35, a36⟩ := fl_get k hk
  have G0 := lh a0
  have G1 := lh a1
  have G18 := lh a18
  have G35 := lh a35
  have G36 := lh a36
  have KP1 := lh (fl_src k)
  have KP2 := lh (fl_dst k hk)
  have IS := lh (fl_is k hk)
  have ID := lh (fl_id k hk)
  have IK := lh (fl_ik k hk)
  clear a0 a1 a18 a35 a36
  generalize k.cs = kc at *
  generalize cellsA k.sv k.S = S at *
  generalize cellsA k.dv k.D = D at *
  generalize k.p = p at *
  generalize k.sv = sv at *
  generalize k.dv = dv at *
  generalize k.sp = sp at *
  generalize k.dp = dp at *
  clear hk hv
  go_enter Try.func29, Try.ntmps29
  have hal := (Below.refl w.heap.size w).alloc (Nat.le_refl _) (.cells kc 42)
  replace K := lh (K.out.trans (hal.mono K.out.size))
  have N := lh (Blk.new w 42 kc)
  clear hal
  have L13 : (loadVar 42 ⟨w.heap.size, 0, none⟩).run Try.prog (w.alloc (.cells kc 42)) = .ok (.agg kc) (w.alloc (.cells kc 42)) := run_blk_load (P := Try.prog) 42 (w.heap.size) _ N.out Try.underlying42 rfl IK.out
  replace L13 := lh L13
  go_wp2_with (((with_reducible refine wpList_load_want (op := ⟨some 7, .load 42 (.tmp 3), _, _, _, _⟩) ?wg13 42 (.tmp 3) ?wo13 ⟨w.heap.size, 0, none⟩ ?wx13 (.agg kc) L13.out ?_); (case wg13 => rfl); (case wo13 => rfl); (case wx13 => rfl)))
  clear L13
  have hzV1 : Hid ((w.alloc (.cells kc 42)).heap.size = w.heap.size + 1) := by show _ = _; simp only [World.size_alloc]
  generalize (w.alloc (.cells kc 42)) = V1 at *
  refine (CR.out V1).mono ?_
  rintro e V2 ⟨rfl, hy⟩
  replace K := lh (K.out.trans (hy.mono K.out.size))
  replace N := lh (N.out.below hy N.out.lt)
  clear hy
  have hqn := eqn_nil
  go_wp2
  go_ret
  exact ⟨rfl, K.out⟩
set_option maxRecDepth 100000 in
theorem pow16 (d : Nat) (h : d ≤ 16) : 0 < 2 ^ d ∧ 2 ^ d ≤ 65536 := by
  have : d < 17 := by omega
  have q : ∀ d : Fin 17, 0 < 2 ^ d.1 ∧ 2 ^ d.1 ≤ 65536 := by decide
  exact q ⟨d, this⟩
set_option maxRecDepth 100000 in
theorem wrap_pow16 (d : Nat) (h : d ≤ 16) : wrap64 (2 ^ min d 64) = ((2 ^ d : Nat) : Int) := by
  have hp := (pow16 d h).2
  have e : (2 : Int) ^ d = ((2 ^ d : Nat) : Int) := by simp
  rw [Nat.min_eq_left (by omega), e]
  generalize 2 ^ d = p at *
  unfold wrap64; omega
set_option maxRecDepth 100000 in
set_option maxHeartbeats 4000000 in
theorem digest_yes (c : Cf) (hc : c.Fit) (hok : okC c = true) (k : Fl) (hk : k.Fit) (hv : vK k = true) (g : Nat) (w : World) (hF : Blk w g 110 (famC c)) :
    Calls Try.prog 29 #[.pointer (some ⟨g, 0, none⟩), .agg k.cs] w fun e w' => e = .returned (.int .u16 ((dgN c k : Nat) : Int)) ∧ Below w.heap.size w w' := by
  have K := lh (Below.refl w.heap.size w)
  have F := lh hF
  have CR := lh (fun W => row_yes k hk hv g W)
  have HL := lh (bK_ne hv)
  obtain ⟨b1, b2⟩ := okC_dg hok
  obtain ⟨d, hd⟩ : ∃ d : Nat, c.dg = (d : Int) := ⟨c.dg.toNat, by omega⟩
  have hd16 : d ≤ 16 := by omega
  obtain ⟨p1, p2⟩ := pow16 d hd16
  have hw := wrap_pow16 d hd16
  have hr : dgN c k = hsB c.sd 8 (bK k) % 2 ^ d := by unfold dgN hsh; rw [hv, hd, if_pos rfl, Int.toNat_natCast]
  rw [hr]
  have CB := lh (fun v W h1 h2 => below_any c hc 8 (by omega) (2 ^ d) p1 (by omega) g v (bK k) (bK_lt k hk) W h1 h2)
  rw [show ((8 : Nat) : Int) = 8 from rfl] at CB
  have hm := Nat.mod_lt (hsB c.sd 8 (bK k)) p1
  generalize hsB c.sd 8 (bK k) % 2 ^ d = r at *
  generalize (2 : Nat) ^ d = P at *
  have w1 : IntKind.u16.wrap (r : Int) = (r : Int) := by rw [IntKind.wrap_u16]; omega
  obtain ⟨-, -, -, f3, -, -⟩ := fam_get tabs4 c tabs4_len
  have FD := lh f3
  change Hid ((famC c)[1027]? = _) at FD
  rw [hd] at FD
  have dn : decide ((d : Int) < 0) = false := decide_eq_false (by omega)
  obtain ⟨a0, a1, a18, a35, a36⟩ := fl_get k hk
  have G0 := lh a0
  have G1 := lh a1
  have G18 := lh a18
  have G35 := lh a35
  have G36 := lh a36
  have KP1 := lh (fl_src k)
  have KP2 := lh (fl_dst k hk)
  have IS := lh (fl_is k hk)
  have ID := lh (fl_id k hk)
  have IK := lh (fl_ik k hk)
  clear a0 a1 a18 a35 a36
  generalize bK k = bs at *
  generalize k.cs = kc at *
  generalize cellsA k.sv k.S = S at *
  generalize cellsA k.dv k.D = D at *
  generalize k.p = p at *
  generalize k.sv = sv at *
  generalize k.dv = dv at *
  generalize k.sp = sp at *
  generalize k.dp = dp at *
  generalize famC c = fc at *
  generalize c.dg = dg at *
  clear hk hv hF hc hok b1 b2 hd hd16 p1 p2 hr f3 hm
  go_enter Try.func29, Try.ntmps29
  have hal := (Below.refl w.heap.size w).alloc (Nat.le_refl _) (.cells kc 42)
  replace K := lh (K.out.trans (hal.mono K.out.size))
  replace F := lh (F.out.below hal F.out.lt)
  have N := lh (Blk.new w 42 kc)
  clear hal
  have L14 : (loadVar 42 ⟨w.heap.size, 0, none⟩).run Try.prog (w.alloc (.cells kc 42)) = .ok (.agg kc) (w.alloc (.cells kc 42)) := run_blk_load (P := Try.prog) 42 (w.heap.size) _ N.out Try.underlying42 rfl IK.out
  replace L14 := lh L14
  go_wp2_with (((with_reducible refine wpList_load_want (op := ⟨some 7, .load 42 (.tmp 3), _, _, _, _⟩) ?wg14 42 (.tmp 3) ?wo14 ⟨w.heap.size, 0, none⟩ ?wx14 (.agg kc) L14.out ?_); (case wg14 => rfl); (case wo14 => rfl); (case wx14 => rfl)))
  clear L14
  have hzV1 : Hid ((w.alloc (.cells kc 42)).heap.size = w.heap.size + 1) := by show _ = _; simp only [World.size_alloc]
  generalize (w.alloc (.cells kc 42)) = V1 at *
  refine (CR.out V1).mono ?_
  rintro e V2 ⟨b, o, cp, rfl, hx, hy⟩
  replace K := lh (K.out.trans (hy.mono K.out.size))
  replace F := lh (F.out.below hy F.out.lt)
  replace N := lh (N.out.below hy N.out.lt)
  have X := lh (hx)
  clear hx
  clear hy
  have hqn := eqn_some
  have HQ := HL.out
  have L15 := (F.out.cell 1027).trans FD.out
  go_wp2_with fail
  clear L15
  refine (CB.out _ V2 F.out X.out).mono ?_
  rintro e V3 ⟨rfl, hy⟩
  replace K := lh (K.out.trans (hy.mono K.out.size))
  replace F := lh (F.out.below hy F.out.lt)
  replace N := lh (N.out.below hy N.out.lt)
  replace X := lh (X.out.below hy)
  clear hy
  go_wp2
  go_ret
  exact ⟨rfl, K.out⟩
end Go.Proofs.Ythldpnifodbheaa
