/- Texts that the walks of this seat lean on, put together. -/
import Derived.StillTailTactics
import Derived.Deep.CutBlock
import Derived.Deep.DeepCutAuto
import Derived.LoopTactic
import Derived.Handy
import Derived.Test.YtcgaibkpdihncaaDoorTk
import Derived.Test.YtcgaibkpdihncaaDoorM06
import Derived.Test.YtcgaibkpdihncaaDoorM13
import Derived.Test.YtcgaibkpdihncaaDoorM15
import Derived.Test.YtcgaibkpdihncaaDoorM19
import Derived.Test.YtcgaibkpdihncaaDoorM20
import Derived.Test.YtcgaibkpdihncaaDoorM22
namespace Go.Proofs.YtcgaibkpdihncaaDoor
open Go.RowKit Go.Lib
theorem i70 : (Tryd.prog.info? 57).map (·.size) = some 256 := by kernel_rfl
theorem bK_ne {k : Fl} (h : vK k = true) : 0 < (bK k).length := by rw [bK_yes h]; unfold bR; simp
theorem knT_info (i : Nat) : (Tryd.prog.info? 57).map (·.size) = some (tcs (knT i)).toList.length := i70.trans (congrArg some (by rw [Array.length_toList, tcs_size, knT_len]))
set_option maxRecDepth 100000 in
set_option maxHeartbeats 4000000 in
theorem row_yes (k : Fl) (hk : k.Fit) (hv : vK k = true) (g : Nat) (w : World) : Calls Tryd.prog 44 #[.pointer (some ⟨g, 0, none⟩), .agg k.cs] w fun e w' => ∃ b o c, e = .returned (.slice (some ⟨b, o, none⟩) (bK k).length c) ∧ Rd w' (.slice (some ⟨b, o, none⟩) (bK k).length c) (nus .u8 (bK k)) ∧ Below w.heap.size w w' := by
  have K := Lib.hid (Below.refl w.heap.size w)
  have CB := Lib.hid (fun W => kbytes_yes k hk hv W)
  have HNE := Lib.hid (bK_ne hv)
  clear hv
  obtain ⟨a0, a1, a18, a35, a36⟩ := fl_get k hk
  have G0 := Lib.hid a0
  have G1 := Lib.hid a1
  have G18 := Lib.hid a18
  have G35 := Lib.hid a35
  have G36 := Lib.hid a36
  have KP1 := Lib.hid (fl_src k)
  have KP2 := Lib.hid (fl_dst k hk)
  have IS := Lib.hid (fl_is k hk)
  have ID := Lib.hid (fl_id k hk)
  have IK := Lib.hid (fl_ik k hk)
  clear a0 a1 a18 a35 a36
  generalize k.cs = kc at *
  generalize cellsA k.sv k.S = S at *
  generalize cellsA k.dv k.D = D at *
  generalize k.p = p at *
  generalize k.sv = sv at *
  generalize k.dv = dv at *
  generalize k.sp = sp at *
  generalize k.dp = dp at *
  clear hk
  go_enter Tryd.func44, Tryd.ntmps44
  have hal := (Below.refl w.heap.size w).alloc (Nat.le_refl _) (.cells kc 43)
  replace K := Lib.hid (K.out.trans (hal.mono K.out.size))
  have N := Lib.hid (Blk.new w 43 kc)
  clear hal
  have L2 : (loadVar 43 ⟨w.heap.size, 0, none⟩).run Tryd.prog (w.alloc (.cells kc 43)) = .ok (.agg kc) (w.alloc (.cells kc 43)) := run_blk_load (P := Tryd.prog) 43 (w.heap.size) _ N.out Tryd.underlying43 rfl IK.out
  replace L2 := Lib.hid L2
  go_wp2_with (((with_reducible refine wpList_load_want (op := ⟨some 7, .load 43 (.tmp 3), _, _, _, _⟩) ?wg2 43 (.tmp 3) ?wo2 ⟨w.heap.size, 0, none⟩ ?wx2 (.agg kc) L2.out ?_); (case wg2 => rfl); (case wo2 => rfl); (case wx2 => rfl)))
  clear L2
  have hzV1 : Hid ((w.alloc (.cells kc 43)).heap.size = w.heap.size + 1) := by show _ = _; simp only [World.size_alloc]
  generalize (w.alloc (.cells kc 43)) = V1 at *
  refine (CB.out V1).mono ?_
  rintro e V2 ⟨x, rfl, hx, hy⟩
  replace K := Lib.hid (K.out.trans (hy.mono K.out.size))
  replace N := Lib.hid (N.out.below hy N.out.lt)
  clear hy
  have X := Lib.hid hx
  clear hx
  go_wp2
  go_ret
  obtain ⟨a, c, rfl, -, -⟩ := rd_shape X.out
  obtain ⟨b, o, rfl, -⟩ := X.out.cells HNE.out
  exact ⟨b, o, c, rfl, X.out, K.out⟩
set_option maxRecDepth 100000 in
set_option maxHeartbeats 4000000 in
theorem hash_any (c : Cf) (hc : c.Fit) (n : Nat) (hn : n ≤ 1000) (g : Nat) (v : Value) (bs : List Nat) (hb : ∀ z ∈ bs, z < 256) (w : World) (hF : Blk w g 60 (famC c)) (hv : Rd w v (nus .u8 bs)) :
    Calls Tryd.prog 53 #[.pointer (some ⟨g, 0, none⟩), v, .int .i64 (n : Int)] w fun e w' => e = .returned (.int .u32 ((hsB c.sd n bs : Nat) : Int)) ∧ Below w.heap.size w w' := by
  obtain ⟨i, hi⟩ : ∃ i, i = n % 4 := ⟨_, rfl⟩
  have hi4 : i < 4 := by omega
  have K := Lib.hid (Below.refl w.heap.size w)
  have F := Lib.hid hF
  have V := Lib.hid hv
  have hkn := (knownC_hi i hi4).2
  have hsd := hc.sd
  have CO := Lib.hid (fun W h => of_any (knownC.getD i 0) (sdN c.sd n) hkn (sdN_lt _ _) v bs hb W h)
  have hl := crcC_lt (knownC.getD i 0) (sdN c.sd n) bs hkn (sdN_lt _ _) hb
  have CM := Lib.hid (fun W => mix_any _ hl W)
  have HR : hsB c.sd n bs = mixN (crcC (knownC.getD i 0) (sdN c.sd n) bs) := by unfold hsB; rw [hi]
  rw [HR]
  have FP := Lib.hid (fam_part c i hi4)
  have FI := Lib.hid (knT_info i)
  have FG := Lib.hid (fam_get tabs4 c tabs4_len).1
  have hk : tabL (knownC.getD i 0) = knT i := rfl
  rw [hk] at CO
  have tm : (n : Int).tmod 4 = (i : Int) := by rw [Int.tmod_eq_emod_of_nonneg (by omega)]; omega
  obtain ⟨q, hq⟩ : ∃ q, q = 7919 * n := ⟨_, rfl⟩
  have w1 : IntKind.u32.wrap (n : Int) = (n : Int) := by rw [IntKind.wrap_u32]; omega
  have w2 : IntKind.u32.wrap ((n : Int) * 7919) = (q : Int) := by rw [IntKind.wrap_u32]; omega
  have w3 : IntKind.u32.wrap ((c.sd : Int) + (q : Int)) = ((sdN c.sd n : Nat) : Int) := by rw [IntKind.wrap_u32]; unfold sdN; omega
  have i1 : (0 : Int) ≤ (i : Int) := by omega
  have i2 : (i : Int) < 4 := by omega
  generalize mixN (crcC (knownC.getD i 0) (sdN c.sd n) bs) = R at *
  generalize crcC (knownC.getD i 0) (sdN c.sd n) bs = C at *
  generalize sdN c.sd n = sn at *
  generalize knT i = T at *
  change Hid ((famC c)[1024]? = _) at FG
  generalize famC c = fc at *
  generalize c.sd = sd at *
  clear hF hv hc hkn hl HR hk hq hsd hi hb
  go_enter Tryd.func53, Tryd.ntmps53
  go_wp2_with fail
  refine wp_region_still_tail 16 (by kernel_rfl) (by kernel_rfl) ?_
  change wpStill _ _ w.drew (fun a' => wpList _ _ _ _ a' w.drew) _ _
  have hy := (Below.refl w.heap.size w).drew
  replace K := Lib.hid (K.out.trans (hy.mono K.out.size))
  replace F := Lib.hid (F.out.below hy F.out.lt)
  replace V := Lib.hid (V.out.below hy)
  clear hy
  generalize w.drew = V1 at *
  have c16 := (F.out.cell 1024).trans FG.out
  simp only [List.take_succ_cons, List.take_zero, List.drop_succ_cons, List.drop_zero]
  still_step
  still_step
  still_step
  still_step
  still_step
  still_step
  refine wpStill_step (fun KK hK => ?_)
  rw [if_pos (by rfl)]
  refine still_load 57 (.tmp 12) rfl ⟨g, i * 256, none⟩ ?h1 (.agg (tcs T)) ?h2 (hK _ ?_)
  case h1 => rfl
  case h2 => have h := run_part_load (P := Tryd.prog) 57 (256 * i) (tcs T).toList _ F.out FP.out Tryd.underlying57 rfl FI.out; rwa [Array.toArray_toList, Nat.mul_comm] at h
  clear hK KK
  still_step
  still_step
  still_step
  still_step
  still_step
  still_step
  still_step
  still_step
  still_step
  refine wpStill_nil ?_
  try simp only [Act.put, tS1, tS2, tS3]
  go_wp2_with fail
  refine (CO.out V1 V.out).mono ?_
  rintro e V2 ⟨rfl, hy⟩
  replace K := Lib.hid (K.out.trans (hy.mono K.out.size))
  replace F := Lib.hid (F.out.below hy F.out.lt)
  replace V := Lib.hid (V.out.below hy)
  clear hy
  go_wp2_with fail
  refine (same_below (CM.out V2)).mono ?_
  rintro e V3 ⟨rfl, hy⟩
  replace K := Lib.hid (K.out.trans (hy.mono K.out.size))
  replace F := Lib.hid (F.out.below hy F.out.lt)
  replace V := Lib.hid (V.out.below hy)
  clear hy
  go_wp2
  go_ret
  exact ⟨rfl, K.out⟩
set_option maxRecDepth 100000 in
set_option maxHeartbeats 4000000 in
theorem below_any (c : Cf) (hc : c.Fit) (n : Nat) (hn : n ≤ 1000) (m : Nat) (hm : 0 < m) (hm2 : m < 9223372036854775808) (g : Nat) (v : Value) (bs : List Nat) (hb : ∀ z ∈ bs, z < 256) (w : World) (hF : Blk w g 60 (famC c)) (hv : Rd w v (nus .u8 bs)) :
    Calls Tryd.prog 45 #[.pointer (some ⟨g, 0, none⟩), v, .int .i64 (n : Int), .int .i64 (m : Int)] w fun e w' => e = .returned (.int .i64 ((hsB c.sd n bs % m : Nat) : Int)) ∧ Below w.heap.size w w' := by
  have K := Lib.hid (Below.refl w.heap.size w)
  have F := Lib.hid hF
  have V := Lib.hid hv
  have CH := Lib.hid (fun W h1 h2 => hash_any c hc n hn g v bs hb W h1 h2)
  have hl := hsB_lt c.sd n bs
  generalize hsB c.sd n bs = H at *
  have w1 : IntKind.u64.wrap (H : Int) = (H : Int) := by rw [IntKind.wrap_u64]; omega
  have w2 : IntKind.u64.wrap (m : Int) = (m : Int) := by rw [IntKind.wrap_u64]; omega
  have hr := Nat.mod_lt H hm
  have h0 : ((m : Int) == 0) = false := by rw [beq_eq_false_iff_ne]; omega
  have h1 : (m : Int) ≠ 0 := by omega
  have tm : (H : Int).tmod (m : Int) = ((H % m : Nat) : Int) := by rw [Int.tmod_eq_emod_of_nonneg (by omega)]; exact (Int.natCast_emod H m).symm
  generalize H % m = r at *
  have w3 : IntKind.u64.wrap (r : Int) = (r : Int) := by rw [IntKind.wrap_u64]; omega
  have w4 : IntKind.i64.wrap (r : Int) = (r : Int) := by rw [IntKind.wrap_i64]; omega
  clear hF hv hc hb hl
  go_enter Tryd.func45, Tryd.ntmps45
  go_wp2_with fail
  refine (CH.out w F.out V.out).mono ?_
  rintro e V1 ⟨rfl, hy⟩
  replace K := Lib.hid (K.out.trans (hy.mono K.out.size))
  replace F := Lib.hid (F.out.below hy F.out.lt)
  replace V := Lib.hid (V.out.below hy)
  clear hy
  go_wp2
  go_ret
  exact ⟨rfl, K.out⟩
end Go.Proofs.YtcgaibkpdihncaaDoor
namespace Go.Proofs.YtcgaibkpdihncaaDoor
open Go.RowKit Go.Lib
theorem eqn_some (p : Addr) (n c : Nat) (W : World) : (binOp .eql 90 (.slice (some p) n c) (.slice none 0 0)).run Tryd.prog W = .ok (.bool false) W := by kernel_rfl
theorem okC_bl {c : Cf} (h : okC c = true) : 8 ≤ c.bl ∧ c.bl ≤ 65536 := by
  unfold okC pw wi at h
  simp only [Bool.and_eq_true, decide_eq_true_iff] at h
  omega
theorem okC_hs {c : Cf} (h : okC c = true) : 1 ≤ c.hs ∧ c.hs ≤ 4 := by
  unfold okC wi at h
  simp only [Bool.and_eq_true, decide_eq_true_iff] at h
  omega
end Go.Proofs.YtcgaibkpdihncaaDoor
