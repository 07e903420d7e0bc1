/- Texts that the walks of this seat lean on, put together. -/
import Derived.Great.BuildSlice
import Derived.Laws.AppendOwnNone
import Derived.Deep.CutBlock
import Derived.Deep.DeepCutAuto
import Derived.LoopTactic
import Derived.Handy
import Derived.Test.YtcgaibkpdihncaaDoorTk
import Derived.Test.YtcgaibkpdihncaaDoorM27
import Derived.Test.YtcgaibkpdihncaaDoorM30
namespace Go.Proofs.YtcgaibkpdihncaaDoor
open Go.RowKit Go.Lib
theorem fill_int (n : Int) : Instr.fill (fun i => some (i * 1, 1)) ((Array.range (1 * 1)).map ((Value.int .i64 0).cells[· % (Value.int .i64 0).cells.size]!)) [(0, .int .i64 n)] = some #[.int .i64 n] := by kernel_rfl
theorem wpI_one {o : Oper} {a : Act} {w : World} {K : Act → World → Prop} {Q : Exit → Act → World → Prop} (x : Operand) (ho : o.op = .buildSlice 22 1 #[(0, x)]) (n : Nat) (hx : a.eval x = .int .i64 (n : Int))
    (h : ∀ w', Blk w' w.heap.size 3 (nus .i64 [n]).toArray → Below w.heap.size w w' → K (a.put o.dst (.slice (some ⟨w.heap.size, 0, none⟩) 1 1)) w') : o.wp Tryd.prog a w K Q := by
  obtain ⟨i, hi, hz, hs, -⟩ := info_parts info3
  refine wp_buildSlice 22 3 1 #[(0, x)] ho #[.int .i64 (n : Int)] i _ Tryd.underlying22 hi hz (by rw [hs]; omega) (by rw [hs]; omega) ?_ (h _ (World.alloc_heap_new w _) ((Below.refl _ w).alloc (Nat.le_refl _) _))
  rw [hs]
  rw [show ((#[(0, x)] : Array (Nat × Operand)).map fun (i, x) => (i, a.eval x)).toList = [(0, a.eval x)] by simp, hx]
  exact fill_int n
theorem wpI_app {w : World} {K : Act → World → Prop} {Q : Exit → Act → World → Prop} {o : Oper} {a : Act} (s x : Operand)
    (ho : o.op = .call { callee := .builtin .append, args := #[s, x], argTypes := #[22, 22] })
    (base : Nat) (v : Value) (n : Nat) (zs : List Nat) (hs : a.eval s = v) (hown : w.ownsRow base 3 1 v n (nus .i64 zs))
    (g m : Nat) (hx : a.eval x = .slice (some ⟨g, 0, none⟩) 1 1) (hb : Blk w g 3 (nus .i64 [m]).toArray) (hlen : n + 1 ≤ 1000000) (hbase : base ≤ w.heap.size)
    (h : ∀ v' w', w'.ownsRow base 3 1 v' (n + 1) (nus .i64 (zs ++ [m])) → w.grownBy w' v.ownBlock → K (a.put o.dst v') w') :
    o.wp Tryd.prog a w K Q := by
  obtain ⟨i0, hi, hz0, hz1, hz2⟩ := info_parts info3
  refine wp_append_own w s x 22 ho base 3 i0 (.int .i64 0) 1 8 Tryd.underlying22 hi hz0 hz1 hz2 rfl (by decide) v n (nus .i64 zs) hs hown ⟨g, 0, none⟩ 1 1 (nus .i64 [m]) hx (by rw [nus_length]; rfl) ?_ (oneCell_nus _ _) (by unfold maxLen; omega) (by omega) hbase ?_
  · intro j u hj
    rw [Addr.add_lit]
    have := hb.cell (0 + j)
    rw [this, ← hj, Nat.zero_add]
    simp
  · intro v' w' hown' hgr _
    exact h v' w' (by rw [nus_append]; exact hown') hgr
set_option maxRecDepth 100000 in
set_option maxHeartbeats 4000000 in
theorem rbits_yes (c : Cf) (hc : c.Fit) (hok : okC c = true) (k : Fl) (hk : k.Fit) (hv : vK k = true) (w : World) :
    Calls Tryd.prog 28 #[.agg c.cs, .agg k.cs] w fun e w' => (∃ x, e = .returned x ∧ Rd w' x (nus .i64 (btL c k c.hs.toNat))) ∧ Below w.heap.size w w' := by
  have K := Lib.hid (Below.refl w.heap.size w)
  have CV := Lib.hid (fun W => rvalid_any k hk W)
  rw [hv] at CV
  obtain ⟨b1, b2⟩ := okC_hs hok
  obtain ⟨n, hn⟩ : ∃ n : Nat, c.hs = (n : Int) := ⟨c.hs.toNat, by omega⟩
  have hn1 : 1 ≤ n := by omega
  have hn2 : n ≤ 4 := by omega
  obtain ⟨b3, b4⟩ := okC_bl hok
  obtain ⟨m, hm⟩ : ∃ m : Nat, c.bl = (m : Int) := ⟨c.bl.toNat, by omega⟩
  have h0 : ((m : Int) == 0) = false := by rw [beq_eq_false_iff_ne]; omega
  have h1 : (m : Int) ≠ 0 := by omega
  have h2 : ¬ m = 0 := by omega
  obtain ⟨f, hf⟩ : ∃ f : Nat → Nat, f = fun i => hsh c (16 + i) k := ⟨_, rfl⟩
  have hf2 : ∀ i, hsh c (16 + i) k = f i := fun i => by rw [hf]
  have HF := Lib.hid (fun i => (hf2 i) ▸ hsh_lt c (16 + i) k)
  have CH := Lib.hid (fun i (hi : i < n) W => rhash_any c hc (16 + i) (by omega) k hk W)
  have HS := Lib.hid (fun i => btL_succ c k i)
  simp only [hf2] at CH HS
  rw [hm] at HS
  simp only [Int.toNat_natCast] at HS
  have H0 : Hid (btL c k 0 = []) := rfl
  rw [hn, Int.toNat_natCast]
  obtain ⟨B, hB⟩ : ∃ B : Nat → List Nat, B = fun i => btL c k i := ⟨_, rfl⟩
  have hB2 : ∀ i, btL c k i = B i := fun i => by rw [hB]
  simp only [hB2] at HS H0
  rw [hB2]
  have hln := fun i => btL_len c k i
  simp only [hB2] at hln
  have HLN := Lib.hid hln
  obtain ⟨b0, b1, b2, b3, b4, b5, b6, b7, b8, b9, b10, b11, b12, b13, b14, b15⟩ := cf_get c hc
  have Q0 := Lib.hid b0
  have Q1 := Lib.hid b1
  have Q2 := Lib.hid b2
  have Q3 := Lib.hid b3
  have Q4 := Lib.hid b4
  have Q5 := Lib.hid b5
  have Q6 := Lib.hid b6
  have Q7 := Lib.hid b7
  have Q8 := Lib.hid b8
  have Q9 := Lib.hid b9
  have Q10 := Lib.hid b10
  have Q11 := Lib.hid b11
  have Q12 := Lib.hid b12
  have Q13 := Lib.hid b13
  have Q14 := Lib.hid b14
  have Q15 := Lib.hid b15
  clear b0 b1 b2 b3 b4 b5 b6 b7 b8 b9 b10 b11 b12 b13 b14 b15
  have CP1 := Lib.hid (cf_own c)
  have CP2 := Lib.hid (cf_own6 c hc)
  have CI1 := Lib.hid (cf_io c hc)
  have CI2 := Lib.hid (cf_ix c hc)
  have IC := Lib.hid (cf_ic c hc)
  rw [hn] at Q4
  rw [hm] at Q3
  obtain ⟨a0, a1, a18, a35, a36⟩ := fl_get k hk
  have G0 := Lib.hid a0
  have G1 := Lib.hid a1
  have G18 := Lib.hid a18
  have G35 := Lib.hid a35
  have G36 := Lib.hid a36
  have KP1 := Lib.hid (fl_src k)
  have KP2 := Lib.hid (fl_dst k hk)
  have IS := Lib.hid (fl_is k hk)
  have ID := Lib.hid (fl_id k hk)
  have IK := Lib.hid (fl_ik k hk)
  clear a0 a1 a18 a35 a36
  generalize k.cs = kc at *
  generalize cellsA k.sv k.S = S at *
  generalize cellsA k.dv k.D = D at *
  generalize k.p = p at *
  generalize k.sv = sv at *
  generalize k.dv = dv at *
  generalize k.sp = sp at *
  generalize k.dp = dp at *
  generalize c.cs = cc at *
  generalize cellsA c.ov c.O = SO at *
  generalize cellsA c.xv c.X = SX at *
  clear hc hk hok hv b1 b2 hn b3 b4 hm hf hf2 hB hB2 hln
  go_enter Tryd.func28, Tryd.ntmps28
  have hal := (Below.refl w.heap.size w).alloc (Nat.le_refl _) (.cells cc 29)
  replace K := Lib.hid (K.out.trans (hal.mono K.out.size))
  have M := Lib.hid (Blk.new w 29 cc)
  clear hal
  have hal := (Below.refl (w.alloc (.cells cc 29)).heap.size (w.alloc (.cells cc 29))).alloc (Nat.le_refl _) (.cells kc 43)
  replace K := Lib.hid (K.out.trans (hal.mono K.out.size))
  replace M := Lib.hid (M.out.below hal M.out.lt)
  have Nq := Blk.new (w.alloc (.cells cc 29)) 43 kc
  simp only [World.size_alloc] at Nq
  have N := Lib.hid Nq
  clear Nq
  clear hal
  go_wp2_with fail
  have hzV1 : Hid (((w.alloc (.cells cc 29)).alloc (.cells kc 43)).heap.size = w.heap.size + 1 + 1) := by show _ = _; simp only [World.size_alloc]
  generalize ((w.alloc (.cells cc 29)).alloc (.cells kc 43)) = V1 at *
  have O0 : Hid (World.ownsRow V1 (w.heap.size + 2) 3 1 (.slice none 0 0) 0 (nus .i64 (B 0))) := by rw [H0.out]; exact World.ownsRow_nil _ _ _ _
  go_loopw [5, 6] (fun l i wr => ∃ (j : Nat) (v : Value), j ≤ n ∧ l = v ∧ i = .int .i64 (j : Int) ∧ Hid (wr.ownsRow (w.heap.size + 2) 3 1 v j (nus .i64 (B j))) ∧ Hid (Blk wr w.heap.size 29 cc) ∧ Hid (Blk wr (w.heap.size + 1) 43 kc) ∧ Hid (Below w.heap.size w wr)) (fun _ i _ => n - (RowKit.intOf i).toNat)
  case atStart => exact ⟨0, _, by omega, rfl, rfl, O0, M, N, K⟩
  case round =>
    obtain ⟨j, v, hj, hlv, rfl, Or, Mr, Nr, Kr⟩ := hrel
    have hlv := hlv.symm
    subst hlv
    clear O0 M N K
    by_cases hlt : j < n
    · have d8 : decide ((j : Int) < (n : Int)) = true := decide_eq_true (by omega)
      have d9 : decide (j < n) = true := decide_eq_true (by omega)
      have CHj := Lib.hid (CH.out j hlt)
      rw [show ((16 + j : Nat) : Int) = 16 + (j : Int) from by omega] at CHj
      have HSj := Lib.hid (HS.out j)
      have w6 : IntKind.i64.wrap (16 + (j : Int)) = 16 + (j : Int) := by rw [IntKind.wrap_i64]; omega
      have hfl := HF.out j
      generalize f j = H at *
      have w4 : IntKind.i64.wrap (H : Int) = (H : Int) := by rw [IntKind.wrap_i64]; omega
      have tm : (H : Int).tmod (m : Int) = ((H % m : Nat) : Int) := by rw [Int.tmod_eq_emod_of_nonneg (by omega)]; exact (Int.natCast_emod H m).symm
      have hrl : H % m < 4294967296 := Nat.lt_of_le_of_lt (Nat.mod_le _ _) hfl
      generalize H % m = r at *
      have w5 : IntKind.i64.wrap (r : Int) = (r : Int) := by rw [IntKind.wrap_i64]; omega
      clear hrl hfl
      have L3 := (Mr.out.cell 4).trans Q4.out
      have L4 : (loadVar 43 ⟨(w.heap.size + 1), 0, none⟩).run Tryd.prog wr = .ok (.agg kc) wr := run_blk_load (P := Tryd.prog) 43 ((w.heap.size + 1)) _ Nr.out Tryd.underlying43 rfl IK.out
      replace L4 := Lib.hid L4
      go_wp2_with (((with_reducible refine wpList_load_want (op := ⟨some 12, .load 43 (.tmp 3), _, _, _, _⟩) ?wg4 43 (.tmp 3) ?wo4 ⟨(w.heap.size + 1), 0, none⟩ ?wx4 (.agg kc) L4.out ?_); (case wg4 => rfl); (case wo4 => rfl); (case wx4 => rfl)))
      clear L3 L4
      refine (CV.out wr).mono ?_
      rintro e V3 ⟨rfl, hy⟩
      replace Mr := Lib.hid (Mr.out.below hy Mr.out.lt)
      replace Nr := Lib.hid (Nr.out.below hy Nr.out.lt)
      replace Kr := Lib.hid (Kr.out.trans (hy.mono Kr.out.size))
      replace Or := Lib.hid (row_under Or.out hy)
      clear hy
      go_upto_region 5 with fail
      have hlow : w.heap.size + 2 ≤ V3.heap.size := by have := Nr.out.lt; omega
      refine wp_region_held (S := (fun w' : World => Below (w.heap.size + 2) V3 w')) (by kernel_rfl) ?_
      change wpAnyH _ _ _ _ _ _ _ _ V3.drew
      have hy : Below V3.heap.size V3 V3.drew := (Below.refl _ _).drew
      have hE0 : Below (w.heap.size + 2) V3 V3.drew := (Below.refl _ _).drew
      replace Or := Lib.hid (row_under Or.out hy)
      clear hy
      generalize V3.drew = Y5x0 at hE0 Or ⊢
      have E0 := Lib.hid hE0
      clear hE0
      refine tkA 0 (?_) ?_ E0.out ?_
      rotate_left
      · (intro w1 hS; go_simp; try with_reducible rfl)
      simp only [Act.put, tS1, tS2, tS3]
      refine tkA 1 (.agg cc) ?_ E0.out ?_
      · (intro w1 hS; have hW := hS; exact exec_load 29 (.tmp 2) rfl _ rfl _ (run_blk_load (P := Tryd.prog) 29 (w.heap.size) _ (Mr.out.below hW (by omega)) Tryd.underlying29 rfl IC.out))
      simp only [Act.put, tS1, tS2, tS3]
      refine tkA 2 (?_) ?_ E0.out ?_
      rotate_left
      · (intro w1 hS; go_simp; try with_reducible rfl)
      simp only [Act.put, tS1, tS2, tS3]
      refine tkA 3 (?_) ?_ E0.out ?_
      rotate_left
      · (intro w1 hS; go_simp; try with_reducible rfl)
      simp only [Act.put, tS1, tS2, tS3]
      refine tkA 4 (.agg kc) ?_ E0.out ?_
      · (intro w1 hS; have hW := hS; exact exec_load 43 (.tmp 3) rfl _ rfl _ (run_blk_load (P := Tryd.prog) 43 ((w.heap.size + 1)) _ (Nr.out.below hW (by omega)) Tryd.underlying43 rfl IK.out))
      simp only [Act.put, tS1, tS2, tS3]
      refine tkA 7 (?_) ?_ E0.out ?_
      rotate_left
      · (intro w1 hS; go_simp; try with_reducible rfl)
      simp only [Act.put, tS1, tS2, tS3]
      refine tkA 8 (?_) ?_ E0.out ?_
      rotate_left
      · (intro w1 hS; have hW := hS; have q := ((Mr.out.below hW (by omega)).cell 3).trans Q3.out; clear hW hS; go_simp; try with_reducible rfl)
      simp only [Act.put, tS1, tS2, tS3]
      refine tkO 5 (fun KK hK => ?_)
      go_simp
      refine (CHj.out Y5x0).mono ?_
      rintro e Y5x1 ⟨rfl, hy⟩
      replace Or := Lib.hid (row_under Or.out hy)
      have E1 := Lib.hid (E0.out.trans (hy.mono (Nat.le_trans hlow E0.out.size)))
      have C1 := Lib.hid E1.out
      clear hy E0
      refine hK.out _ _ C1.out (fun _ => ?_)
      clear hK KK
      clear C1
      try simp only [Act.put, tS1, tS2, tS3]
      refine tkA 6 (?_) ?_ E1.out ?_
      rotate_left
      · (intro w1 hS; go_simp; try with_reducible rfl)
      simp only [Act.put, tS1, tS2, tS3]
      refine tkA 9 (?_) ?_ E1.out ?_
      rotate_left
      · (intro w1 hS; go_simp; try with_reducible rfl)
      simp only [Act.put, tS1, tS2, tS3]
      refine tkO 10 (fun KK hK => ?_)
      rw [if_pos (by rfl)]
      refine wpI_one (.tmp 26) rfl r rfl ?_
      intro Y5x2 hm hy
      replace Or := Lib.hid (row_under Or.out hy)
      have E2 := Lib.hid (E1.out.trans (hy.mono (Nat.le_trans hlow E1.out.size)))
      have C2 := Lib.hid E2.out
      have MB := Lib.hid (hm)
      clear hy E1
      refine hK.out _ _ C2.out (fun _ => ?_)
      clear hK KK
      clear C2
      try simp only [Act.put, tS1, tS2, tS3]
      clear hm
      refine tkO 11 (fun KK hK => ?_)
      rw [if_pos (by rfl)]
      refine wpI_app (.tmp 17) (.tmp 27) rfl (w.heap.size + 2) v j (B j) rfl Or.out Y5x1.heap.size r rfl MB.out (by omega) (Nat.le_trans hlow E2.out.size) ?_
      intro vx Y5x3 oz gz
      have hlt2 := fun q e => (Or.out.lt q e).1
      rw [← HSj.out] at oz
      replace Or := Lib.hid oz
      clear oz MB
      have E3 := Lib.hid (E2.out.grown gz (Nat.le_trans hlow E2.out.size) hlt2)
      clear gz E2 hlt2
      refine hK.out _ _ E3.out (fun _ => ?_)
      clear hK KK
      try simp only [Act.put, tS1, tS2, tS3]
      refine tkA 12 (?_) ?_ E3.out ?_
      rotate_left
      · (intro w1 hS; go_simp; try with_reducible rfl)
      simp only [Act.put, tS1, tS2, tS3]
      refine wpAnyH_done (by kernel_rfl) ?_ _
      replace Mr := Lib.hid (Mr.out.below E3.out (by omega))
      replace Nr := Lib.hid (Nr.out.below E3.out (by omega))
      replace Kr := Lib.hid (Kr.out.trans (E3.out.mono (by omega)))
      clear E3
      go_wp2
      go_roundw
      case rel => exact ⟨j + 1, _, Nat.succ_le_of_lt hlt, rfl, by go_num, Or, Mr, Nr, Kr⟩
      case measure => simp [RowKit.intOf]; omega
    · obtain rfl : j = n := by omega
      have d8 : decide (((j : Nat) : Int) < (j : Int)) = false := decide_eq_false (by omega)
      have d9 : decide (j < j) = false := decide_eq_false (by omega)
      have L5 := (Mr.out.cell 4).trans Q4.out
      go_wp2
      go_ret
      exact ⟨⟨_, rfl, Rd.own Or.out⟩, Kr.out⟩
end Go.Proofs.YtcgaibkpdihncaaDoor
