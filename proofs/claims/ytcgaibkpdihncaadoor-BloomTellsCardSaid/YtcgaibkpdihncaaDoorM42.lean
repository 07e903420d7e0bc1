/- Texts that the walks of this seat lean on, put together. -/
import Derived.StillTailTactics
import Derived.Deep.CutBlock
import Derived.Deep.DeepCutAuto
import Derived.LoopTactic
import Derived.Handy
import Derived.Test.YtcgaibkpdihncaaDoorTk
import Derived.Test.YtcgaibkpdihncaaDoorM11
import Derived.Test.YtcgaibkpdihncaaDoorM20
import Derived.Test.YtcgaibkpdihncaaDoorM41
namespace Go.Proofs.YtcgaibkpdihncaaDoor
open Go.RowKit Go.Lib
set_option maxRecDepth 100000 in
theorem wpI_apps {w : World} {K : Act → World → Prop} {Q : Exit → Act → World → Prop} {o : Oper} {a : Act} (s x : Operand)
    (ho : o.op = .call { callee := .builtin .append, args := #[s, x], argTypes := #[22, 22] })
    (base : Nat) (v : Value) (n : Nat) (zs : List Nat) (hs : a.eval s = v) (hown : w.ownsRow base 3 1 v n (nus .i64 zs))
    (ao : Option Addr) (len cap : Nat) (bs : List Nat) (hx : a.eval x = .slice ao len cap) (hr : Rd w (.slice ao len cap) (nus .i64 bs)) (hn : ao = none → cap = 0) (hlen : n + len ≤ 1000000) (hbase : base ≤ w.heap.size)
    (h : ∀ v' w', w'.ownsRow base 3 1 v' (n + len) (nus .i64 (zs ++ bs)) → w.grownBy w' v.ownBlock → K (a.put o.dst v') w') :
    o.wp Tryd.prog a w K Q := by
  obtain ⟨i0, hi, hz0, hz1, hz2⟩ := info_parts info3
  obtain ⟨a', cap', e, h1, h2, h3⟩ := hr
  simp only [Value.slice.injEq] at e
  obtain ⟨rfl, he, rfl⟩ := e
  rw [nus_length] at he h1 h3
  subst he
  cases ao with
  | none =>
    obtain rfl := hn rfl
    have hb : bs = [] := by cases bs with | nil => rfl | cons _ _ => simp at h1
    subst hb
    have hrun := run_append_owned_none (P := Tryd.prog) (w := w) base 22 o.type 3 i0 1 Tryd.underlying22 hi v n (nus .i64 zs) hown
    unfold Oper.wp
    simp [execOp, ho, resolve, invoke, builtin, hs, hx, hrun, Result.andThen]
    exact h v w (by simpa using hown) (World.grownBy.refl _ _)
  | some ad =>
    refine wp_append_own w s x 22 ho base 3 i0 (.int .i64 0) 1 8 Tryd.underlying22 hi hz0 hz1 hz2 rfl (by decide) v n (nus .i64 zs) hs hown ad bs.length cap (nus .i64 bs) hx (by rw [nus_length]; omega) ?_ (oneCell_nus _ _) (by unfold maxLen; omega) (by omega) hbase ?_
    · intro j u hj
      rcases h3 with h3 | ⟨b, off, e, hb, hcc⟩
      · rw [h3] at hj; simp at hj
      · cases e
        have hjl : j < (nus .i64 bs).length := (List.getElem?_eq_some_iff.1 hj).1
        rw [nus_length] at hjl
        rw [← hj]
        rw [Addr.add_lit]; exact hcc j hjl
    · intro v' w' hown' hgr _
      exact h v' w' (by rw [nus_append]; exact hown') hgr
set_option maxRecDepth 100000 in
set_option maxHeartbeats 4000000 in
theorem rbits_own (c : Cf) (hc : c.Fit) (hok : okC c = true) (k : Fl) (hk : k.Fit) (hv : vK k = true) (w : World) :
    Calls Tryd.prog 28 #[.agg c.cs, .agg k.cs] w fun e w' => (∃ x, e = .returned x ∧ w'.ownsRow w.heap.size 3 1 x c.hs.toNat (nus .i64 (btL c k c.hs.toNat))) ∧ Below w.heap.size w w' := by
  have K := Lib.hid (Below.refl w.heap.size w)
  have CV := Lib.hid (fun W => rvalid_any k hk W)
  rw [hv] at CV
  obtain ⟨b1, b2⟩ := okC_hs hok
  obtain ⟨n, hn⟩ : ∃ n : Nat, c.hs = (n : Int) := ⟨c.hs.toNat, by omega⟩
  have hn1 : 1 ≤ n := by omega
  have hn2 : n ≤ 4 := by omega
  obtain ⟨b3, b4⟩ := okC_bl hok
  obtain ⟨m, hm⟩ : ∃ m : Nat, c.bl = (m : Int) := ⟨c.bl.toNat, by omega⟩
  have h0 : ((m : Int) == 0) = false := by rw [beq_eq_false_iff_ne]; omega
  have h1 : (m : Int) ≠ 0 := by omega
  have h2 : ¬ m = 0 := by omega
  obtain ⟨f, hf⟩ : ∃ f : Nat → Nat, f = fun i => hsh c (16 + i) k := ⟨_, rfl⟩
  have hf2 : ∀ i, hsh c (16 + i) k = f i := fun i => by rw [hf]
  have HF := Lib.hid (fun i => (hf2 i) ▸ hsh_lt c (16 + i) k)
  have CH := Lib.hid (fun i (hi : i < n) W => rhash_any c hc (16 + i) (by omega) k hk W)
  have HS := Lib.hid (fun i => btL_succ c k i)
  simp only [hf2] at CH HS
  rw [hm] at HS
  simp only [Int.toNat_natCast] at HS
  have H0 : Hid (btL c k 0 = []) := rfl
  rw [hn, Int.toNat_natCast]
  obtain ⟨B, hB⟩ : ∃ B : Nat → List Nat, B = fun i => btL c k i := ⟨_, rfl⟩
  have hB2 : ∀ i, btL c k i = B i := fun i => by rw [hB]
  simp only [hB2] at HS H0
  rw [hB2]
  have hln := fun i => btL_len c k i
  simp only [hB2] at hln
  have HLN := Lib.hid hln
  obtain ⟨b0, b1, b2, b3, b4, b5, b6, b7, b8, b9, b10, b11, b12, b13, b14, b15⟩ := cf_get c hc
  have Q0 := Lib.hid b0
  have Q1 := Lib.hid b1
  have Q2 := Lib.hid b2
  have Q3 := Lib.hid b3
  have Q4 := Lib.hid b4
  have Q5 := Lib.hid b5
  have Q6 := Lib.hid b6
  have Q7 := Lib.hid b7
  have Q8 := Lib.hid b8
  have Q9 := Lib.hid b9
  have Q10 := Lib.hid b10
  have Q11 := Lib.hid b11
  have Q12 := Lib.hid b12
  have Q13 := Lib.hid b13
  have Q14 := Lib.hid b14
  have Q15 := Lib.hid b15
  clear b0 b1 b2 b3 b4 b5 b6 b7 b8 b9 b10 b11 b12 b13 b14 b15
  have CP1 := Lib.hid (cf_own c)
  have CP2 := Lib.hid (cf_own6 c hc)
  have CI1 := Lib.hid (cf_io c hc)
  have CI2 := Lib.hid (cf_ix c hc)
  have IC := Lib.hid (cf_ic c hc)
  rw [hn] at Q4
  rw [hm] at Q3
  obtain ⟨a0, a1, a18, a35, a36⟩ := fl_get k hk
  have G0 := Lib.hid a0
  have G1 := Lib.hid a1
  have G18 := Lib.hid a18
  have G35 := Lib.hid a35
  have G36 := Lib.hid a36
  have KP1 := Lib.hid (fl_src k)
  have KP2 := Lib.hid (fl_dst k hk)
  have IS := Lib.hid (fl_is k hk)
  have ID := Lib.hid (fl_id k hk)
  have IK := Lib.hid (fl_ik k hk)
  clear a0 a1 a18 a35 a36
  generalize k.cs = kc at *
  generalize cellsA k.sv k.S = S at *
  generalize cellsA k.dv k.D = D at *
  generalize k.p = p at *
  generalize k.sv = sv at *
  generalize k.dv = dv at *
  generalize k.sp = sp at *
  generalize k.dp = dp at *
  generalize c.cs = cc at *
  generalize cellsA c.ov c.O = SO at *
  generalize cellsA c.xv c.X = SX at *
  clear hc hk hok hv b1 b2 hn b3 b4 hm hf hf2 hB hB2 hln
  go_enter Tryd.func28, Tryd.ntmps28
  have hal := (Below.refl w.heap.size w).alloc (Nat.le_refl _) (.cells cc 29)
  replace K := Lib.hid (K.out.trans (hal.mono K.out.size))
  have M := Lib.hid (Blk.new w 29 cc)
  clear hal
  have hal := (Below.refl (w.alloc (.cells cc 29)).heap.size (w.alloc (.cells cc 29))).alloc (Nat.le_refl _) (.cells kc 43)
  replace K := Lib.hid (K.out.trans (hal.mono K.out.size))
  replace M := Lib.hid (M.out.below hal M.out.lt)
  have Nq := Blk.new (w.alloc (.cells cc 29)) 43 kc
  simp only [World.size_alloc] at Nq
  have N := Lib.hid Nq
  clear Nq
  clear hal
  go_wp2_with fail
  have hzV1 : Hid (((w.alloc (.cells cc 29)).alloc (.cells kc 43)).heap.size = w.heap.size + 1 + 1) := by show _ = _; simp only [World.size_alloc]
  generalize ((w.alloc (.cells cc 29)).alloc (.cells kc 43)) = V1 at *
  have O0 : Hid (World.ownsRow V1 (w.heap.size + 2) 3 1 (.slice none 0 0) 0 (nus .i64 (B 0))) := by rw [H0.out]; exact World.ownsRow_nil _ _ _ _
  go_loopw [5, 6] (fun l i wr => ∃ (j : Nat) (v : Value), j ≤ n ∧ l = v ∧ i = .int .i64 (j : Int) ∧ Hid (wr.ownsRow (w.heap.size + 2) 3 1 v j (nus .i64 (B j))) ∧ Hid (Blk wr w.heap.size 29 cc) ∧ Hid (Blk wr (w.heap.size + 1) 43 kc) ∧ Hid (Below w.heap.size w wr)) (fun _ i _ => n - (RowKit.intOf i).toNat)
  case atStart => exact ⟨0, _, by omega, rfl, rfl, O0, M, N, K⟩
  case round =>
    obtain ⟨j, v, hj, hlv, rfl, Or, Mr, Nr, Kr⟩ := hrel
    have hlv := hlv.symm
    subst hlv
    clear O0 M N K
    by_cases hlt : j < n
    · have d8 : decide ((j : Int) < (n : Int)) = true := decide_eq_true (by omega)
      have d9 : decide (j < n) = true := decide_eq_true (by omega)
      have CHj := Lib.hid (CH.out j hlt)
      rw [show ((16 + j : Nat) : Int) = 16 + (j : Int) from by omega] at CHj
      have HSj := Lib.hid (HS.out j)
      have w6 : IntKind.i64.wrap (16 + (j : Int)) = 16 + (j : Int) := by rw [IntKind.wrap_i64]; omega
      have hfl := HF.out j
      generalize f j = H at *
      have w4 : IntKind.i64.wrap (H : Int) = (H : Int) := by rw [IntKind.wrap_i64]; omega
      have tm : (H : Int).tmod (m : Int) = ((H % m : Nat) : Int) := by rw [Int.tmod_eq_emod_of_nonneg (by omega)]; exact (Int.natCast_emod H m).symm
      have hrl : H % m < 4294967296 := Nat.lt_of_le_of_lt (Nat.mod_le _ _) hfl
      generalize H % m = r at *
      have w5 : IntKind.i64.wrap (r : Int) = (r : Int) := by rw [IntKind.wrap_i64]; omega
      clear hrl hfl
      have L3 := (Mr.out.cell 4).trans Q4.out
      have L4 : (loadVar 43 ⟨(w.heap.size + 1), 0, none⟩).run Tryd.prog wr = .ok (.agg kc) wr := run_blk_load (P := Tryd.prog) 43 ((w.heap.size + 1)) _ Nr.out Tryd.underlying43 rfl IK.out
      replace L4 := Lib.hid L4
      go_wp2_with (((with_reducible refine wpList_load_want (op := ⟨some 12, .load 43 (.tmp 3), _, _, _, _⟩) ?wg4 43 (.tmp 3) ?wo4 ⟨(w.heap.size + 1), 0, none⟩ ?wx4 (.agg kc) L4.out ?_); (case wg4 => rfl); (case wo4 => rfl); (case wx4 => rfl)))
      clear L3 L4
      refine (CV.out wr).mono ?_
      rintro e V3 ⟨rfl, hy⟩
      replace Mr := Lib.hid (Mr.out.below hy Mr.out.lt)
      replace Nr := Lib.hid (Nr.out.below hy Nr.out.lt)
      replace Kr := Lib.hid (Kr.out.trans (hy.mono Kr.out.size))
      replace Or := Lib.hid (row_under Or.out hy)
      clear hy
      go_upto_region 5 with fail
      have hlow : w.heap.size + 2 ≤ V3.heap.size := by have := Nr.out.lt; omega
      refine wp_region_held (S := (fun w' : World => Below (w.heap.size + 2) V3 w')) (by kernel_rfl) ?_
      change wpAnyH _ _ _ _ _ _ _ _ V3.drew
      have hy : Below V3.heap.size V3 V3.drew := (Below.refl _ _).drew
      have hE0 : Below (w.heap.size + 2) V3 V3.drew := (Below.refl _ _).drew
      replace Or := Lib.hid (row_under Or.out hy)
      clear hy
      generalize V3.drew = Y5x0 at hE0 Or ⊢
      have E0 := Lib.hid hE0
      clear hE0
      refine tkA 0 (?_) ?_ E0.out ?_
      rotate_left
      · (intro w1 hS; go_simp; try with_reducible rfl)
      simp only [Act.put, tS1, tS2, tS3]
      refine tkA 1 (.agg cc) ?_ E0.out ?_
      · (intro w1 hS; have hW := hS; exact exec_load 29 (.tmp 2) rfl _ rfl _ (run_blk_load (P := Tryd.prog) 29 (w.heap.size) _ (Mr.out.below hW (by omega)) Tryd.underlying29 rfl IC.out))
      simp only [Act.put, tS1, tS2, tS3]
      refine tkA 2 (?_) ?_ E0.out ?_
      rotate_left
      · (intro w1 hS; go_simp; try with_reducible rfl)
      simp only [Act.put, tS1, tS2, tS3]
      refine tkA 3 (?_) ?_ E0.out ?_
      rotate_left
      · (intro w1 hS; go_simp; try with_reducible rfl)
      simp only [Act.put, tS1, tS2, tS3]
      refine tkA 4 (.agg kc) ?_ E0.out ?_
      · (intro w1 hS; have hW := hS; exact exec_load 43 (.tmp 3) rfl _ rfl _ (run_blk_load (P := Tryd.prog) 43 ((w.heap.size + 1)) _ (Nr.out.below hW (by omega)) Tryd.underlying43 rfl IK.out))
      simp only [Act.put, tS1, tS2, tS3]
      refine tkA 7 (?_) ?_ E0.out ?_
      rotate_left
      · (intro w1 hS; go_simp; try with_reducible rfl)
      simp only [Act.put, tS1, tS2, tS3]
      refine tkA 8 (?_) ?_ E0.out ?_
      rotate_left
      · (intro w1 hS; have hW := hS; have q := ((Mr.out.below hW (by omega)).cell 3).trans Q3.out; clear hW hS; go_simp; try with_reducible rfl)
      simp only [Act.put, tS1, tS2, tS3]
      refine tkO 5 (fun KK hK => ?_)
      go_simp
      refine (CHj.out Y5x0).mono ?_
      rintro e Y5x1 ⟨rfl, hy⟩
      replace Or := Lib.hid (row_under Or.out hy)
      have E1 := Lib.hid (E0.out.trans (hy.mono (Nat.le_trans hlow E0.out.size)))
      have C1 := Lib.hid E1.out
      clear hy E0
      refine hK.out _ _ C1.out (fun _ => ?_)
      clear hK KK
      clear C1
      try simp only [Act.put, tS1, tS2, tS3]
      refine tkA 6 (?_) ?_ E1.out ?_
      rotate_left
      · (intro w1 hS; go_simp; try with_reducible rfl)
      simp only [Act.put, tS1, tS2, tS3]
      refine tkA 9 (?_) ?_ E1.out ?_
      rotate_left
      · (intro w1 hS; go_simp; try with_reducible rfl)
      simp only [Act.put, tS1, tS2, tS3]
      refine tkO 10 (fun KK hK => ?_)
      rw [if_pos (by rfl)]
      refine wpI_one (.tmp 26) rfl r rfl ?_
      intro Y5x2 hm hy
      replace Or := Lib.hid (row_under Or.out hy)
      have E2 := Lib.hid (E1.out.trans (hy.mono (Nat.le_trans hlow E1.out.size)))
      have C2 := Lib.hid E2.out
      have MB := Lib.hid (hm)
      clear hy E1
      refine hK.out _ _ C2.out (fun _ => ?_)
      clear hK KK
      clear C2
      try simp only [Act.put, tS1, tS2, tS3]
      clear hm
      refine tkO 11 (fun KK hK => ?_)
      rw [if_pos (by rfl)]
      refine wpI_app (.tmp 17) (.tmp 27) rfl (w.heap.size + 2) v j (B j) rfl Or.out Y5x1.heap.size r rfl MB.out (by omega) (Nat.le_trans hlow E2.out.size) ?_
      intro vx Y5x3 oz gz
      have hlt2 := fun q e => (Or.out.lt q e).1
      rw [← HSj.out] at oz
      replace Or := Lib.hid oz
      clear oz MB
      have E3 := Lib.hid (E2.out.grown gz (Nat.le_trans hlow E2.out.size) hlt2)
      clear gz E2 hlt2
      refine hK.out _ _ E3.out (fun _ => ?_)
      clear hK KK
      try simp only [Act.put, tS1, tS2, tS3]
      refine tkA 12 (?_) ?_ E3.out ?_
      rotate_left
      · (intro w1 hS; go_simp; try with_reducible rfl)
      simp only [Act.put, tS1, tS2, tS3]
      refine wpAnyH_done (by kernel_rfl) ?_ _
      replace Mr := Lib.hid (Mr.out.below E3.out (by omega))
      replace Nr := Lib.hid (Nr.out.below E3.out (by omega))
      replace Kr := Lib.hid (Kr.out.trans (E3.out.mono (by omega)))
      clear E3
      go_wp2
      go_roundw
      case rel => exact ⟨j + 1, _, Nat.succ_le_of_lt hlt, rfl, by go_num, Or, Mr, Nr, Kr⟩
      case measure => simp [RowKit.intOf]; omega
    · obtain rfl : j = n := by omega
      have d8 : decide (((j : Nat) : Int) < (j : Int)) = false := decide_eq_false (by omega)
      have d9 : decide (j < j) = false := decide_eq_false (by omega)
      have L5 := (Mr.out.cell 4).trans Q4.out
      go_wp2
      go_ret
      exact ⟨⟨_, rfl, own_low (Nat.le_add_right _ 2) Or.out⟩, Kr.out⟩
theorem op_last {P : Program} {ops : Array Oper} {Q : Exit → Act → World → Prop} {n : Nat} {o : Oper} {a : Act} {w : World} (h : o.wp P a w (fun a' w' => Q .normal a' w') Q)
    (ho : ops[n]? = some o := by (simp only [List.getElem?_toArray, List.getElem?_cons_succ, List.getElem?_cons_zero]; exact rfl)) (hg : o.guard = none := by rfl) : ahead P ops n Q .normal a w := by
  have hw : ∀ f, Region.wanted o f = true := fun f => by simp [Region.wanted, hg]
  show wpOp P ops Q n _ a w
  unfold wpOp
  rw [ho]
  simp only [hw, if_true]
  exact .inl h
theorem row_two {w : World} {base n : Nat} {e : TypeId} {v : Value} {xs : List Value} (h : w.ownsRow base e 1 v n xs) : (v = .slice none 0 0 ∧ n = 0) ∨ ∃ g cap, v = .slice (some ⟨g, 0, none⟩) n cap ∧ n ≤ cap ∧ base ≤ g := by
  rcases h.2 with ⟨rfl, rfl⟩ | ⟨g, cap, cur, rfl, hg, hh, hn, hm, hs, ht⟩
  · exact .inl ⟨rfl, rfl⟩
  · exact .inr ⟨g, cap, rfl, hn, hg⟩
theorem Rd.subP {w : World} {b off len cap : Nat} {k : IntKind} {bs : List Nat} (h : Rd w (.slice (some ⟨b, off, none⟩) len cap) (nus k bs)) (j m : Nat) (hc : j + m ≤ len) :
    Rd w (.slice (if cap = j then some ⟨b, off, none⟩ else some ⟨b, off + j, none⟩) m (cap - j)) (nus k ((bs.drop j).take m)) := by
  by_cases he : cap = j
  · rw [if_pos he]
    have h1 := h
    obtain ⟨a', cap', e, h1, h2, h3⟩ := h1
    simp only [Value.slice.injEq] at e
    obtain ⟨-, rfl, rfl⟩ := e
    have hm : m = 0 := by omega
    subst hm
    exact ⟨some ⟨b, off, none⟩, cap - j, by simp [nus], by simp [nus], by omega, .inl (by simp [nus])⟩
  · rw [if_neg he]; exact h.sub j m hc
theorem own_set {w : World} {base g i : Nat} {e : TypeId} {v u : Value} {n : Nat} {xs : List Value} (h : w.ownsRow base e 1 v n xs) (h0 : g < base) : (w.setCell ⟨g, i, none⟩ u).ownsRow base e 1 v n xs :=
  own_apart h (gb_set (gb_of (Below.refl _ _) g) i u) h0
theorem ins_same (N : Nat) (l : List Nat) (j M : Nat) (h : j < l.length) (hb : (insB N (l.take j) M).testBit (l.getD j 0 % N) = true) : insB N (l.take (j + 1)) M = insB N (l.take j) M ∧ (!hasB N (l.take (j + 1)) M) = (!hasB N (l.take j) M) := by
  obtain ⟨h1, h2⟩ := ins_next N l j M h
  rw [h1, h2, hb, put1_same _ _ hb]
  simp
theorem drop_all (l : List Nat) (n k : Nat) (h : l.length = n) : (l.drop k).take (n - k) = l.drop k := List.take_of_length_le (by rw [List.length_drop]; omega)
set_option maxRecDepth 100000 in
set_option maxHeartbeats 4000000 in
theorem rIns_yes (c : Cf) (hc : c.Fit) (hok : okC c = true) (k : Fl) (hk : k.Fit) (gR N M base : Nat) (v : Value) (h0 : 0 < N) (hN : N ≤ 65536) (hgb : gR < base) (hkv : vK k = true) (w : World) (hbw : base ≤ w.heap.size) (hR : Blk w gR 40 (rft c.cs N v)) (hv : w.ownsRow base 3 1 v (bitsL M N).length (nus .i64 (bitsL M N))) :
    Calls Tryd.prog 14 #[.pointer (some ⟨gR, 0, none⟩), .agg k.cs] w fun e w' => e = .returned (.bool (!hasB N (btN c k) M)) ∧ (∃ v', Blk w' gR 40 (rft c.cs N v') ∧ w'.ownsRow base 3 1 v' (bitsL (insB N (btN c k) M) N).length (nus .i64 (bitsL (insB N (btN c k) M) N))) ∧ w.grownBy w' (some gR) := by
  have K := Lib.hid (Below.refl w.heap.size w)
  have R := Lib.hid hR
  have V := Lib.hid hv
  have hcz := cf_size c hc
  have RG := Lib.hid (fun u => rft_get c.cs hcz N u)
  have RS := Lib.hid (fun u u' => rft_set c.cs hcz N u u')
  have RP := Lib.hid (rft_part c.cs N v)
  have RI := Lib.hid (show (Tryd.prog.info? 29).map (·.size) = some c.cs.toList.length from (cf_ic c hc).trans (congrArg some Array.length_toList.symm))
  have CH := Lib.hid (fun M1 u b W (h1 : Blk W gR 40 (rft c.cs N u)) (h2 : Rd W u (nus .i64 (bitsL M1 N))) => rhas_any gR c.cs hcz N u (bitsL M1 N) b (by have := bitsL_le M1 N; omega) W h1 h2)
  have CB := Lib.hid (fun W => rbits_own c hc hok k hk hkv W)
  rw [btN_y hkv]
  obtain ⟨b1, b2⟩ := okC_hs hok
  obtain ⟨n, hn⟩ : ∃ n, n = c.hs.toNat := ⟨_, rfl⟩
  rw [← hn] at CB ⊢
  have hl := btL_len c k n
  have hlt : ∀ i, i < n → (btL c k n).getD i 0 < c.bl.toNat := btL_bl c k hok n
  obtain ⟨b3, b4⟩ := okC_bl hok
  have HLE := Lib.hid (show ∀ i, i < n → (btL c k n).getD i 0 ≤ 65536 from fun i hi => by have := hlt i hi; omega)
  have hnm : n ≤ 4 := by omega
  clear hlt
  generalize btL c k n = bs at *
  obtain ⟨a0, a1, a18, a35, a36⟩ := fl_get k hk
  have G0 := Lib.hid a0
  have G1 := Lib.hid a1
  have G18 := Lib.hid a18
  have G35 := Lib.hid a35
  have G36 := Lib.hid a36
  have KP1 := Lib.hid (fl_src k)
  have KP2 := Lib.hid (fl_dst k hk)
  have IS := Lib.hid (fl_is k hk)
  have ID := Lib.hid (fl_id k hk)
  have IK := Lib.hid (fl_ik k hk)
  clear a0 a1 a18 a35 a36
  generalize k.cs = kc at *
  generalize cellsA k.sv k.S = S at *
  generalize cellsA k.dv k.D = D at *
  generalize k.p = p at *
  generalize k.sv = sv at *
  generalize k.dv = dv at *
  generalize k.sp = sp at *
  generalize k.dp = dp at *
  generalize c.cs = cc at *
  have HNL := Lib.hid hl
  have qR := hR.lt
  clear hk hkv hc hok hR hv hn hl b1 b2 b3 b4 hcz
  have hNz : ((N : Int) == 0) = false := by rw [beq_eq_false_iff_ne]; omega
  have hNz2 : (N : Int) ≠ 0 := by omega
  have hNz3 : ¬ N = 0 := by omega
  go_enter Tryd.func14, Tryd.ntmps14
  have hal := (Below.refl w.heap.size w).alloc (Nat.le_refl _) (.cells kc 43)
  replace K := Lib.hid (K.out.trans (hal.mono K.out.size))
  replace R := Lib.hid (R.out.below hal R.out.lt)
  replace V := Lib.hid (row_under V.out hal)
  have NB := Lib.hid (Blk.new w 43 kc)
  clear hal
  go_wp2_with fail
  have hzV1 : Hid ((w.alloc (.cells kc 43)).heap.size = w.heap.size + 1) := by show _ = _; simp only [World.size_alloc]
  generalize (w.alloc (.cells kc 43)) = V1 at *
  refine wp_region_held (S := (fun w' : World => Below (V1.heap.size) V1 w')) (by kernel_rfl) ?_
  change wpAnyH _ _ _ _ _ _ _ _ V1.drew
  have hy : Below V1.heap.size V1 V1.drew := (Below.refl _ _).drew
  have hE0 : Below (V1.heap.size) V1 V1.drew := (Below.refl _ _).drew
  clear hy
  generalize V1.drew = Y1x0 at hE0  ⊢
  have E0 := Lib.hid hE0
  clear hE0
  refine tkA 0 (?_) ?_ E0.out ?_
  rotate_left
  · (intro w1 hS; go_simp; try with_reducible rfl)
  simp only [Act.put, tS1, tS2, tS3]
  refine tkA 1 (?_) ?_ E0.out ?_
  rotate_left
  · (intro w1 hS; go_simp; try with_reducible rfl)
  simp only [Act.put, tS1, tS2, tS3]
  refine tkA 2 (?_) ?_ E0.out ?_
  rotate_left
  · (intro w1 hS; go_simp; try with_reducible rfl)
  simp only [Act.put, tS1, tS2, tS3]
  refine tkA 3 (.agg cc) ?_ E0.out ?_
  · (intro w1 hS; have hW := hS; exact exec_load 29 (.tmp 12) rfl _ rfl _ (by have h := run_part_load (P := Tryd.prog) 29 0 cc.toList _ (R.out.below hW R.out.lt) RP.out Tryd.underlying29 rfl RI.out; rwa [Array.toArray_toList] at h))
  simp only [Act.put, tS1, tS2, tS3]
  refine tkA 4 (.agg kc) ?_ E0.out ?_
  · (intro w1 hS; have hW := hS; exact exec_load 43 (.tmp 3) rfl _ rfl _ (run_blk_load (P := Tryd.prog) 43 (w.heap.size) _ (NB.out.below hW NB.out.lt) Tryd.underlying43 rfl IK.out))
  simp only [Act.put, tS1, tS2, tS3]
  refine tkO 5 (fun KK hK => ?_)
  go_simp
  have hsz := E0.out.size
  refine (CB.out Y1x0).mono ?_
  rintro e Y1x1 ⟨⟨x, rfl, hx⟩, hy⟩
  have E1 := Lib.hid (E0.out.trans (hy.mono E0.out.size))
  have C1 := Lib.hid E1.out
  have X := Lib.hid (own_low (b1 := base) (Nat.le_trans hbw (Nat.le_trans K.out.size hsz)) hx)
  clear hx hsz
  clear hy E0
  refine hK.out _ _ C1.out (fun _ => ?_)
  clear hK KK
  refine wpAnyH_mono (S' := (fun w' : World => Below Y1x1.heap.size Y1x1 w')) (fun w1 h => C1.out.trans (h.mono C1.out.size)) _ _ _ _ ?_
  clear C1
  try simp only [Act.put, tS1, tS2, tS3]
  refine tkA 6 (?_) ?_ (Below.refl _ _) ?_
  rotate_left
  · (intro w1 hS; go_simp; try with_reducible rfl)
  simp only [Act.put, tS1, tS2, tS3]
  refine wpAnyH_done (by kernel_rfl) ?_ _
  have hy := E1.out
  replace K := Lib.hid (K.out.trans (hy.mono K.out.size))
  replace R := Lib.hid (R.out.below hy R.out.lt)
  replace V := Lib.hid (row_under V.out hy)
  replace NB := Lib.hid (NB.out.below hy NB.out.lt)
  clear hy E1
  obtain ⟨xa, xc, hxe⟩ := row_shape X.out
  subst hxe
  have KG := Lib.hid (gb_of K.out gR)
  have hqB := Nat.le_trans hbw K.out.size
  go_wp2
  go_loopw [7, 6] (fun i fr wr => ∃ (j : Nat) (u : Value), j ≤ n ∧ i = .int .i64 (j : Int) ∧ fr = .bool (!hasB N (bs.take j) M) ∧ Hid (wr.ownsRow base 3 1 (.slice xa n xc) n (nus .i64 bs)) ∧ Hid (Blk wr gR 40 (rft cc N u)) ∧ Hid (wr.ownsRow base 3 1 u (bitsL (insB N (bs.take j) M) N).length (nus .i64 (bitsL (insB N (bs.take j) M) N))) ∧ Hid (w.grownBy wr (some gR)) ∧ base ≤ wr.heap.size) (fun i _ _ => n - (RowKit.intOf i).toNat)
  case atStart => exact ⟨0, v, by omega, rfl, rfl, X, R, V, KG, hqB⟩
  case round =>
    obtain ⟨j, u, hj, rfl, rfl, Xr, Rr, Vr, Kr, hbr⟩ := hrel
    clear R V X K NB KG hqB
    by_cases hlt : j < n
    · have d8 : decide ((j : Int) < (n : Int)) = true := decide_eq_true (by omega)
      have d9 : decide (j < n) = true := decide_eq_true (by omega)
      have hb2 : 0 ≤ (j : Int) ∧ (j : Int) < (n : Int) := by omega
      have HN := Lib.hid (ins_next N bs j M (by have := HNL.out; omega))
      have HSM := Lib.hid (ins_same N bs j M (by have := HNL.out; omega))
      have hx := HLE.out j hlt
      obtain ⟨bb, off, e, _⟩ := (Rd.own Xr.out).cells (by omega)
      subst e
      have HCE := Lib.hid (fun W (h : Rd W (.slice (some ⟨bb, off, none⟩) n xc) (nus .i64 bs)) => by obtain ⟨b', o', e', hc⟩ := h.cells (by omega); cases e'; exact hc j hlt)
      generalize bs.getD j 0 = x at *
      obtain ⟨M1, hM1⟩ : ∃ M1, M1 = insB N (bs.take j) M := ⟨_, rfl⟩
      obtain ⟨M2, hM2⟩ : ∃ M2, M2 = insB N (bs.take (j + 1)) M := ⟨_, rfl⟩
      obtain ⟨an, han⟩ : ∃ an, an = !hasB N (bs.take j) M := ⟨_, rfl⟩
      obtain ⟨an2, han2⟩ : ∃ an2, an2 = !hasB N (bs.take (j + 1)) M := ⟨_, rfl⟩
      rw [← hM1, ← hM2, ← han, ← han2] at HN HSM
      rw [← hM1] at Vr
      rw [← han]
      have HM2 := Lib.hid hM2
      have HA2 := Lib.hid han2
      have hpN : x % N < N := Nat.mod_lt _ h0
      have HIB := Lib.hid (in_bits M1 N (x % N) hpN)
      have tm : (x : Int).tmod (N : Int) = ((x % N : Nat) : Int) := by rw [Int.tmod_eq_emod_of_nonneg (by omega)]; exact (Int.natCast_emod x N).symm
      have w6 : IntKind.i64.wrap ((j : Int) + 1) = ((j + 1 : Nat) : Int) := by rw [IntKind.wrap_i64]; omega
      have CHp := Lib.hid (fun W h1 h2 => CH.out M1 u (x % N) W h1 h2)
      generalize x % N = p at *
      rw [HIB.out] at CHp
      obtain ⟨bt, hbt⟩ : ∃ bt, bt = M1.testBit p := ⟨_, rfl⟩
      rw [← hbt] at CHp HN HSM
      have HBT := Lib.hid hbt
      have HN1 := Lib.hid HN.out.1
      have HN2 := Lib.hid HN.out.2
      have hnv := bitsL_le M1 N
      have HNV := Lib.hid (show (bitsL M1 N).length ≤ 65536 by omega)
      clear hM1 hM2 han han2 hbt HIB HN hnv
      have KB := Lib.hid (Below.refl wr.heap.size wr)
      have RG1 := Lib.hid (RG.out u).1
      have RG2 := Lib.hid (RG.out u).2
      go_wp2_with fail
      refine wp_region_held (S := (fun w' : World => Below (wr.heap.size) wr w')) (by kernel_rfl) ?_
      change wpAnyH _ _ _ _ _ _ _ _ wr.drew
      have hy : Below wr.heap.size wr wr.drew := (Below.refl _ _).drew
      have hE0 : Below (wr.heap.size) wr wr.drew := (Below.refl _ _).drew
      clear hy
      generalize wr.drew = Y6x0 at hE0  ⊢
      have E0 := Lib.hid hE0
      clear hE0
      refine tkA 0 (?_) ?_ E0.out ?_
      rotate_left
      · (intro w1 hS; go_simp; try with_reducible rfl)
      simp only [Act.put, tS1, tS2, tS3]
      refine tkA 1 (?_) ?_ E0.out ?_
      rotate_left
      · (intro w1 hS; go_simp; try with_reducible rfl)
      simp only [Act.put, tS1, tS2, tS3]
      refine tkA 2 (?_) ?_ E0.out ?_
      rotate_left
      · (intro w1 hS; go_simp; try with_reducible rfl)
      simp only [Act.put, tS1, tS2, tS3]
      refine tkA 3 (?_) ?_ E0.out ?_
      rotate_left
      · (intro w1 hS; have hW := hS; have q := HCE.out w1 (Rd.own (row_under Xr.out hW)); clear hW hS; go_simp; try with_reducible rfl)
      simp only [Act.put, tS1, tS2, tS3]
      refine tkA 4 (?_) ?_ E0.out ?_
      rotate_left
      · (intro w1 hS; go_simp; try with_reducible rfl)
      simp only [Act.put, tS1, tS2, tS3]
      refine tkA 5 (?_) ?_ E0.out ?_
      rotate_left
      · (intro w1 hS; go_simp; try with_reducible rfl)
      simp only [Act.put, tS1, tS2, tS3]
      refine tkA 6 (?_) ?_ E0.out ?_
      rotate_left
      · (intro w1 hS; go_simp; try with_reducible rfl)
      simp only [Act.put, tS1, tS2, tS3]
      refine tkA 7 (?_) ?_ E0.out ?_
      rotate_left
      · (intro w1 hS; have hW := hS; have q := ((Rr.out.below hW Rr.out.lt).cell 48).trans RG1.out; clear hW hS; go_simp; try with_reducible rfl)
      simp only [Act.put, tS1, tS2, tS3]
      refine tkA 8 (?_) ?_ E0.out ?_
      rotate_left
      · (intro w1 hS; go_simp; try with_reducible rfl)
      simp only [Act.put, tS1, tS2, tS3]
      refine tkA 9 (?_) ?_ E0.out ?_
      rotate_left
      · (intro w1 hS; go_simp; try with_reducible rfl)
      simp only [Act.put, tS1, tS2, tS3]
      refine wpAnyH_done (by kernel_rfl) ?_ _
      have hy := E0.out
      replace Xr := Lib.hid (row_under Xr.out hy)
      replace Rr := Lib.hid (Rr.out.below hy Rr.out.lt)
      replace Vr := Lib.hid (row_under Vr.out hy)
      replace KB := Lib.hid (KB.out.trans (hy.mono KB.out.size))
      clear hy E0
      go_wp2_with fail
      refine (CHp.out Y6x0 Rr.out (Rd.own Vr.out)).mono ?_
      rintro e V3 ⟨rfl, rfl⟩
      replace Kr := Lib.hid (gb_below Kr.out KB.out)
      replace hbr := Nat.le_trans hbr KB.out.size
      clear KB
      cases bt with
      | true =>
        obtain ⟨sm1, sm2⟩ := HSM.out rfl
        have HM3 := Lib.hid sm1
        have HA3 := Lib.hid sm2
        clear sm1 sm2
        go_wp2
        go_roundw
        case rel => exact ⟨j + 1, u, Nat.succ_le_of_lt hlt, by go_num, by rw [← HA2.out, HA3.out], Xr, Rr, by rw [← HM2.out, HM3.out]; exact Vr, Kr, hbr⟩
        case measure => simp [RowKit.intOf]; omega
      | false =>
        have hbt := HBT.out.symm
        have HAH := Lib.hid (fun i (hi : i < (bitsL M1 p).length) => bitsL_ahead M1 p N i (by omega) hi)
        have HBE := Lib.hid (fun i h1 h2 => bitsL_behind M1 p N i hbt hpN h1 h2)
        have HPU := Lib.hid (bitsL_put1 M1 p N hbt hpN)
        have HLO : Hid ((bitsL M1 p).length ≤ (bitsL M1 N).length) := by
          show _ ≤ _
          obtain ⟨r, hr⟩ := bitsL_pre M1 p N (by omega)
          rw [hr, List.length_append]; omega
        have HA3 : Hid (an2 = true) := by show _ = _; rw [HN2.out]; simp
        rw [← HN1.out, HM2.out] at HPU
        clear hbt HBT HSM HN2 CHp CH
        obtain ⟨lo, hlo⟩ : ∃ lo, lo = (bitsL M1 p).length := ⟨_, rfl⟩
        rw [← hlo] at HAH HBE HPU HLO
        have hlo2 := HLO.out
        have hnv := HNV.out
        obtain ⟨bl, hbl⟩ : ∃ bl, bl = bitsL M1 N := ⟨_, rfl⟩
        rw [← hbl] at HAH HBE HPU HLO Vr hlo2 hnv
        obtain ⟨nv, hnl⟩ : ∃ nv, nv = bl.length := ⟨_, rfl⟩
        have HNVL := Lib.hid hnl.symm
        rw [← hnl] at HBE HLO Vr hlo2 hnv
        clear HN1 HNV HLO hlo hbl hnl
        rcases row_two Vr.out with ⟨rfl, hz⟩ | ⟨g, cap, rfl, hc1, hc2⟩
        · subst hz
          have hlz : lo = 0 := by omega
          subst hlz
          have c49 := (Rr.out.cell 49).trans RG2.out
          go_upto_block 2 with fail
          go_cut [9] (fun t wx => t = .int .i64 0 ∧ Y6x0 = wx)
          case first =>
            have d0 : decide ((0 : Int) > 0) = false := by decide
            go_wp2
            go_loopw [9] (fun t wx => t = .int .i64 0 ∧ Hid (Y6x0 = wx)) (fun _ _ => 0)
            case atStart => exact ⟨rfl, rfl⟩
            case round =>
              obtain ⟨rfl, hwx⟩ := hrel
              obtain rfl := hwx.out
              go_wp2
              go_meet
              exact ⟨rfl, rfl⟩
          case rest =>
            obtain ⟨rfl, hw⟩ := hcut
            subst hw
            go_upto_region 12 with fail
            have hlow : Y6x0.heap.size ≤ Y6x0.heap.size := Nat.le_refl _
            refine wp_region_held_last (n := 21) (S := (fun w' : World => Below (Y6x0.heap.size) Y6x0 w')) (by kernel_rfl) (by kernel_rfl) ?_
            simp only [List.pop_toArray, List.dropLast_cons_cons, List.dropLast_singleton]
            change wpAnyH _ _ _ _ _ _ _ _ Y6x0.drew
            have hE0 : Below (Y6x0.heap.size) Y6x0 Y6x0.drew := (Below.refl _ _).drew
            generalize Y6x0.drew = Y12x0 at hE0 ⊢
            have E0 := Lib.hid hE0
            clear hE0
            refine tkA 0 (?_) ?_ E0.out ?_
            rotate_left
            · (intro w1 hS; go_simp; try with_reducible rfl)
            simp only [Act.put, tS1, tS2, tS3]
            refine tkA 2 (?_) ?_ E0.out ?_
            rotate_left
            · (intro w1 hS; go_simp; try with_reducible rfl)
            simp only [Act.put, tS1, tS2, tS3]
            refine tkA 3 (?_) ?_ E0.out ?_
            rotate_left
            · (intro w1 hS; go_simp; try with_reducible rfl)
            simp only [Act.put, tS1, tS2, tS3]
            refine tkA 4 (?_) ?_ E0.out ?_
            rotate_left
            · (intro w1 hS; go_simp; try with_reducible rfl)
            simp only [Act.put, tS1, tS2, tS3]
            refine tkA 5 (?_) ?_ E0.out ?_
            rotate_left
            · (intro w1 hS; have hW := hS; have q := ((Rr.out.below hW Rr.out.lt).cell 49).trans RG2.out; clear hW hS; go_simp; try with_reducible rfl)
            simp only [Act.put, tS1, tS2, tS3]
            refine tkA 6 (?_) ?_ E0.out ?_
            rotate_left
            · (intro w1 hS; go_simp; try with_reducible rfl)
            simp only [Act.put, tS1, tS2, tS3]
            refine tkA 7 (?_) ?_ E0.out ?_
            rotate_left
            · (intro w1 hS; go_simp; try with_reducible rfl)
            simp only [Act.put, tS1, tS2, tS3]
            refine tkA 9 (?_) ?_ E0.out ?_
            rotate_left
            · (intro w1 hS; go_simp; try with_reducible rfl)
            simp only [Act.put, tS1, tS2, tS3]
            refine tkA 12 (?_) ?_ E0.out ?_
            rotate_left
            · (intro w1 hS; go_simp; try with_reducible rfl)
            simp only [Act.put, tS1, tS2, tS3]
            refine tkA 13 (?_) ?_ E0.out ?_
            rotate_left
            · (intro w1 hS; go_simp; try with_reducible rfl)
            simp only [Act.put, tS1, tS2, tS3]
            refine tkA 14 (?_) ?_ E0.out ?_
            rotate_left
            · (intro w1 hS; go_simp; try with_reducible rfl)
            simp only [Act.put, tS1, tS2, tS3]
            refine tkA 15 (?_) ?_ E0.out ?_
            rotate_left
            · (intro w1 hS; have hW := hS; have q := ((Rr.out.below hW Rr.out.lt).cell 49).trans RG2.out; clear hW hS; go_simp; try with_reducible rfl)
            simp only [Act.put, tS1, tS2, tS3]
            refine tkA 16 (?_) ?_ E0.out ?_
            rotate_left
            · (intro w1 hS; go_simp; try with_reducible rfl)
            simp only [Act.put, tS1, tS2, tS3]
            refine tkA 17 (?_) ?_ E0.out ?_
            rotate_left
            · (intro w1 hS; go_simp; try with_reducible rfl)
            simp only [Act.put, tS1, tS2, tS3]
            refine wpAnyH_ready (rs := [1, 10]) (by kernel_rfl) (by simp) ?_
            refine AllReadyH.cons (o := { dst := some 56, op := Op.buildSlice 22 0 #[], type := 22, pos := "table.go:187", after := #[], guard := none }) rfl (fun KK hK => ?_) (AllReadyH.cons (o := { dst := some 65, op := Op.buildSlice 22 1 #[(0, Operand.tmp 64)], type := 22, pos := "table.go:187", after := #[{ on := 9, ground := Ground.data }], guard := none }) rfl (fun KK hK => ?_) AllReadyH.nil)
            · go_simp
              have hr := own_none Y12x0 3
              have hy := (Below.refl Y12x0.heap.size Y12x0).alloc (Nat.le_refl _) (.cells #[] 3)
              generalize Y12x0.alloc (.cells #[] 3) = Y12x1 at hr hy ⊢
              have qs0 : Y12x0.heap.size < Y12x1.heap.size := (hr.lt _ rfl).2
              have R0 := Lib.hid (own_low (b1 := Y6x0.heap.size) E0.out.size hr)
              have E1 := Lib.hid (E0.out.trans (hy.mono E0.out.size))
              clear hr hy E0
              refine hK.out _ _ E1.out (fun _ => ?_)
              clear hK KK
              try simp only [Act.put, tS1, tS2, tS3]
              refine wpAnyH_ready (rs := [8, 10]) (by kernel_rfl) (by simp) ?_
              refine AllReadyH.cons (o := { dst := some 63, op := Op.call { callee := Callee.builtin Builtin.append, args := #[Operand.tmp 56, Operand.tmp 62], argTypes := #[22, 22] }, type := 22, pos := "table.go:187", after := #[{ on := 1, ground := Ground.data }, { on := 7, ground := Ground.data }], guard := none }) rfl (fun KK hK => ?_) (AllReadyH.cons (o := { dst := some 65, op := Op.buildSlice 22 1 #[(0, Operand.tmp 64)], type := 22, pos := "table.go:187", after := #[{ on := 9, ground := Ground.data }], guard := none }) rfl (fun KK hK => ?_) AllReadyH.nil)
              · rw [if_pos (by rfl)]
                refine wpI_apps (.tmp 56) (.tmp 62) rfl (Y6x0.heap.size) (.slice (some ⟨Y12x0.heap.size, 0, none⟩) 0 0) 0 [] rfl R0.out none 0 0 [] rfl (rd_nil _ _) (fun _ => rfl) (by omega) E1.out.size ?_
                intro v1 Y12x2 oz gz
                have E2 := Lib.hid (E1.out.grown gz E1.out.size (fun q e => (R0.out.lt q e).1))
                have R1 := Lib.hid oz
                clear oz gz R0 E1
                refine hK.out _ _ E2.out (fun _ => ?_)
                clear hK KK
                try simp only [Act.put, tS1, tS2, tS3]
                refine tkO 10 (fun KK hK => ?_)
                rw [if_pos (by rfl)]
                refine wpI_one (.tmp 64) rfl p rfl ?_
                intro Y12x3 hm hy
                have qb2 := hm.lt
                have MB := Lib.hid hm
                replace R1 := Lib.hid (row_under R1.out hy)
                have E3 := Lib.hid (E2.out.trans (hy.mono E2.out.size))
                clear hm hy E2
                refine hK.out _ _ E3.out (fun _ => ?_)
                clear hK KK
                try simp only [Act.put, tS1, tS2, tS3]
                refine tkO 11 (fun KK hK => ?_)
                rw [if_pos (by rfl)]
                refine wpI_app (.tmp 63) (.tmp 65) rfl (Y6x0.heap.size) v1 (0 + 0) ([] ++ []) rfl R1.out Y12x2.heap.size p rfl MB.out (by omega) E3.out.size ?_
                intro v2 Y12x4 oz gz
                have E4 := Lib.hid (E3.out.grown gz E3.out.size (fun q e => (R1.out.lt q e).1))
                have R2 := Lib.hid oz
                clear oz gz R1 MB E3
                refine hK.out _ _ E4.out (fun _ => ?_)
                clear hK KK
                try simp only [Act.put, tS1, tS2, tS3]
                refine tkO 18 (fun KK hK => ?_)
                rw [if_pos (by rfl)]
                refine wpI_apps (.tmp 66) (.tmp 72) rfl (Y6x0.heap.size) v2 (0 + 0 + 1) (([] ++ []) ++ [p]) rfl R2.out none 0 0 [] rfl (rd_nil _ _) (fun _ => rfl) (by omega) E4.out.size ?_
                intro v3 Y12x5 oz gz
                have E5 := Lib.hid (E4.out.grown gz E4.out.size (fun q e => (R2.out.lt q e).1))
                have R3 := Lib.hid oz
                clear oz gz R2 E4
                refine hK.out _ _ E5.out (fun _ => ?_)
                clear hK KK
                try simp only [Act.put, tS1, tS2, tS3]
                refine tkA 19 (?_) ?_ E5.out ?_
                rotate_left
                · (intro w1 hS; go_simp; try with_reducible rfl)
                simp only [Act.put, tS1, tS2, tS3]
                refine tkA 20 (?_) ?_ E5.out ?_
                rotate_left
                · (intro w1 hS; go_simp; try with_reducible rfl)
                simp only [Act.put, tS1, tS2, tS3]
                refine wpAnyH_done (by kernel_rfl) ?_ _
                refine op_last ?_
                have HR3 := Lib.hid (Rr.out.below E5.out Rr.out.lt)
                have c49 := (HR3.out.cell 49).trans RG2.out
                have f49 := HR3.out.frozen 49
                obtain ⟨a3, k3, hv3⟩ := row_shape R3.out
                subst hv3
                obtain ⟨n3, hn3⟩ : ∃ n3, n3 = (0 + 0 + 1 + 0) := ⟨_, rfl⟩
                rw [← hn3] at R3 ⊢
                have KS := Lib.hid (gb_set (gb_below Kr.out E5.out) 49 (.slice a3 n3 k3))
                have RS4 := Lib.hid (HR3.out.set_ 49 (.slice a3 n3 k3))
                rw [RS.out] at RS4
                have XS := Lib.hid (own_set (i := 49) (u := .slice a3 n3 k3) (row_under Xr.out E5.out) hgb)
                have HZE : Hid ((([] ++ []) ++ [p]) ++ [] = bitsL (insB N (bs.take (j + 1)) M) N) := by
                  show _ = _
                  rw [HPU.out]
                  have : bl = [] := List.eq_nil_of_length_eq_zero HNVL.out
                  rw [this]; rfl
                rw [HZE.out] at R3
                have hn4 : n3 = (bitsL (insB N (bs.take (j + 1)) M) N).length := by
                  rw [← HZE.out, hn3]
                  have := HNVL.out
                  simp <;> omega
                rw [hn4] at R3 ⊢
                have VS := Lib.hid (own_low (b1 := base) hbr (own_set (i := 49) (g := gR) (u := .slice a3 n3 k3) R3.out Rr.out.lt))
                have hbs := Nat.le_trans hbr (Nat.le_trans E5.out.size (gb_set (gb_of (Below.refl _ Y12x5) gR) 49 (.slice a3 n3 k3)).size)
                rw [hn4] at RS4 XS VS KS hbs
                clear hn3 hn4 HR3
                go_wp2
                go_roundw
                case rel => exact ⟨j + 1, _, Nat.succ_le_of_lt hlt, by go_num, by rw [← HA2.out, HA3.out], XS, RS4, VS, KS, hbs⟩
                case measure => simp [RowKit.intOf]; omega
              · rw [if_pos (by rfl)]
                refine wpI_one (.tmp 64) rfl p rfl ?_
                intro Y12x2 hm hy
                have qb1 := hm.lt
                have MB := Lib.hid hm
                replace R0 := Lib.hid (row_under R0.out hy)
                have E2 := Lib.hid (E1.out.trans (hy.mono E1.out.size))
                clear hm hy E1
                refine hK.out _ _ E2.out (fun _ => ?_)
                clear hK KK
                try simp only [Act.put, tS1, tS2, tS3]
                refine tkO 8 (fun KK hK => ?_)
                rw [if_pos (by rfl)]
                refine wpI_apps (.tmp 56) (.tmp 62) rfl (Y6x0.heap.size) (.slice (some ⟨Y12x0.heap.size, 0, none⟩) 0 0) 0 [] rfl R0.out none 0 0 [] rfl (rd_nil _ _) (fun _ => rfl) (by omega) E2.out.size ?_
                intro v1 Y12x3 oz gz
                have mb := gz.block Y12x1.heap.size MB.out.lt (fun e => by simp [Value.ownBlock] at e; omega)
                replace MB := Lib.hid (show Blk _ _ _ _ from mb.trans MB.out)
                clear mb
                have E3 := Lib.hid (E2.out.grown gz E2.out.size (fun q e => (R0.out.lt q e).1))
                have R1 := Lib.hid oz
                clear oz gz R0 E2
                refine hK.out _ _ E3.out (fun _ => ?_)
                clear hK KK
                try simp only [Act.put, tS1, tS2, tS3]
                refine tkO 11 (fun KK hK => ?_)
                rw [if_pos (by rfl)]
                refine wpI_app (.tmp 63) (.tmp 65) rfl (Y6x0.heap.size) v1 (0 + 0) ([] ++ []) rfl R1.out Y12x1.heap.size p rfl MB.out (by omega) E3.out.size ?_
                intro v2 Y12x4 oz gz
                have E4 := Lib.hid (E3.out.grown gz E3.out.size (fun q e => (R1.out.lt q e).1))
                have R2 := Lib.hid oz
                clear oz gz R1 MB E3
                refine hK.out _ _ E4.out (fun _ => ?_)
                clear hK KK
                try simp only [Act.put, tS1, tS2, tS3]
                refine tkO 18 (fun KK hK => ?_)
                rw [if_pos (by rfl)]
                refine wpI_apps (.tmp 66) (.tmp 72) rfl (Y6x0.heap.size) v2 (0 + 0 + 1) (([] ++ []) ++ [p]) rfl R2.out none 0 0 [] rfl (rd_nil _ _) (fun _ => rfl) (by omega) E4.out.size ?_
                intro v3 Y12x5 oz gz
                have E5 := Lib.hid (E4.out.grown gz E4.out.size (fun q e => (R2.out.lt q e).1))
                have R3 := Lib.hid oz
                clear oz gz R2 E4
                refine hK.out _ _ E5.out (fun _ => ?_)
                clear hK KK
                try simp only [Act.put, tS1, tS2, tS3]
                refine tkA 19 (?_) ?_ E5.out ?_
                rotate_left
                · (intro w1 hS; go_simp; try with_reducible rfl)
                simp only [Act.put, tS1, tS2, tS3]
                refine tkA 20 (?_) ?_ E5.out ?_
                rotate_left
                · (intro w1 hS; go_simp; try with_reducible rfl)
                simp only [Act.put, tS1, tS2, tS3]
                refine wpAnyH_done (by kernel_rfl) ?_ _
                refine op_last ?_
                have HR3 := Lib.hid (Rr.out.below E5.out Rr.out.lt)
                have c49 := (HR3.out.cell 49).trans RG2.out
                have f49 := HR3.out.frozen 49
                obtain ⟨a3, k3, hv3⟩ := row_shape R3.out
                subst hv3
                obtain ⟨n3, hn3⟩ : ∃ n3, n3 = (0 + 0 + 1 + 0) := ⟨_, rfl⟩
                rw [← hn3] at R3 ⊢
                have KS := Lib.hid (gb_set (gb_below Kr.out E5.out) 49 (.slice a3 n3 k3))
                have RS4 := Lib.hid (HR3.out.set_ 49 (.slice a3 n3 k3))
                rw [RS.out] at RS4
                have XS := Lib.hid (own_set (i := 49) (u := .slice a3 n3 k3) (row_under Xr.out E5.out) hgb)
                have HZE : Hid ((([] ++ []) ++ [p]) ++ [] = bitsL (insB N (bs.take (j + 1)) M) N) := by
                  show _ = _
                  rw [HPU.out]
                  have : bl = [] := List.eq_nil_of_length_eq_zero HNVL.out
                  rw [this]; rfl
                rw [HZE.out] at R3
                have hn4 : n3 = (bitsL (insB N (bs.take (j + 1)) M) N).length := by
                  rw [← HZE.out, hn3]
                  have := HNVL.out
                  simp <;> omega
                rw [hn4] at R3 ⊢
                have VS := Lib.hid (own_low (b1 := base) hbr (own_set (i := 49) (g := gR) (u := .slice a3 n3 k3) R3.out Rr.out.lt))
                have hbs := Nat.le_trans hbr (Nat.le_trans E5.out.size (gb_set (gb_of (Below.refl _ Y12x5) gR) 49 (.slice a3 n3 k3)).size)
                rw [hn4] at RS4 XS VS KS hbs
                clear hn3 hn4 HR3
                go_wp2
                go_roundw
                case rel => exact ⟨j + 1, _, Nat.succ_le_of_lt hlt, by go_num, by rw [← HA2.out, HA3.out], XS, RS4, VS, KS, hbs⟩
                case measure => simp [RowKit.intOf]; omega
            · rw [if_pos (by rfl)]
              refine wpI_one (.tmp 64) rfl p rfl ?_
              intro Y12x1 hm hy
              have qb0 := hm.lt
              have MB := Lib.hid hm
              have E1 := Lib.hid (E0.out.trans (hy.mono E0.out.size))
              clear hm hy E0
              refine hK.out _ _ E1.out (fun _ => ?_)
              clear hK KK
              try simp only [Act.put, tS1, tS2, tS3]
              refine tkO 1 (fun KK hK => ?_)
              go_simp
              have hr := own_none Y12x1 3
              have hy := (Below.refl Y12x1.heap.size Y12x1).alloc (Nat.le_refl _) (.cells #[] 3)
              generalize Y12x1.alloc (.cells #[] 3) = Y12x2 at hr hy ⊢
              have qs1 : Y12x1.heap.size < Y12x2.heap.size := (hr.lt _ rfl).2
              have R0 := Lib.hid (own_low (b1 := Y6x0.heap.size) E1.out.size hr)
              replace MB := Lib.hid (MB.out.below hy MB.out.lt)
              have E2 := Lib.hid (E1.out.trans (hy.mono E1.out.size))
              clear hr hy E1
              refine hK.out _ _ E2.out (fun _ => ?_)
              clear hK KK
              try simp only [Act.put, tS1, tS2, tS3]
              refine tkO 8 (fun KK hK => ?_)
              rw [if_pos (by rfl)]
              refine wpI_apps (.tmp 56) (.tmp 62) rfl (Y6x0.heap.size) (.slice (some ⟨Y12x1.heap.size, 0, none⟩) 0 0) 0 [] rfl R0.out none 0 0 [] rfl (rd_nil _ _) (fun _ => rfl) (by omega) E2.out.size ?_
              intro v1 Y12x3 oz gz
              have mb := gz.block Y12x0.heap.size MB.out.lt (fun e => by simp [Value.ownBlock] at e; omega)
              replace MB := Lib.hid (show Blk _ _ _ _ from mb.trans MB.out)
              clear mb
              have E3 := Lib.hid (E2.out.grown gz E2.out.size (fun q e => (R0.out.lt q e).1))
              have R1 := Lib.hid oz
              clear oz gz R0 E2
              refine hK.out _ _ E3.out (fun _ => ?_)
              clear hK KK
              try simp only [Act.put, tS1, tS2, tS3]
              refine tkO 11 (fun KK hK => ?_)
              rw [if_pos (by rfl)]
              refine wpI_app (.tmp 63) (.tmp 65) rfl (Y6x0.heap.size) v1 (0 + 0) ([] ++ []) rfl R1.out Y12x0.heap.size p rfl MB.out (by omega) E3.out.size ?_
              intro v2 Y12x4 oz gz
              have E4 := Lib.hid (E3.out.grown gz E3.out.size (fun q e => (R1.out.lt q e).1))
              have R2 := Lib.hid oz
              clear oz gz R1 MB E3
              refine hK.out _ _ E4.out (fun _ => ?_)
              clear hK KK
              try simp only [Act.put, tS1, tS2, tS3]
              refine tkO 18 (fun KK hK => ?_)
              rw [if_pos (by rfl)]
              refine wpI_apps (.tmp 66) (.tmp 72) rfl (Y6x0.heap.size) v2 (0 + 0 + 1) (([] ++ []) ++ [p]) rfl R2.out none 0 0 [] rfl (rd_nil _ _) (fun _ => rfl) (by omega) E4.out.size ?_
              intro v3 Y12x5 oz gz
              have E5 := Lib.hid (E4.out.grown gz E4.out.size (fun q e => (R2.out.lt q e).1))
              have R3 := Lib.hid oz
              clear oz gz R2 E4
              refine hK.out _ _ E5.out (fun _ => ?_)
              clear hK KK
              try simp only [Act.put, tS1, tS2, tS3]
              refine tkA 19 (?_) ?_ E5.out ?_
              rotate_left
              · (intro w1 hS; go_simp; try with_reducible rfl)
              simp only [Act.put, tS1, tS2, tS3]
              refine tkA 20 (?_) ?_ E5.out ?_
              rotate_left
              · (intro w1 hS; go_simp; try with_reducible rfl)
              simp only [Act.put, tS1, tS2, tS3]
              refine wpAnyH_done (by kernel_rfl) ?_ _
              refine op_last ?_
              have HR3 := Lib.hid (Rr.out.below E5.out Rr.out.lt)
              have c49 := (HR3.out.cell 49).trans RG2.out
              have f49 := HR3.out.frozen 49
              obtain ⟨a3, k3, hv3⟩ := row_shape R3.out
              subst hv3
              obtain ⟨n3, hn3⟩ : ∃ n3, n3 = (0 + 0 + 1 + 0) := ⟨_, rfl⟩
              rw [← hn3] at R3 ⊢
              have KS := Lib.hid (gb_set (gb_below Kr.out E5.out) 49 (.slice a3 n3 k3))
              have RS4 := Lib.hid (HR3.out.set_ 49 (.slice a3 n3 k3))
              rw [RS.out] at RS4
              have XS := Lib.hid (own_set (i := 49) (u := .slice a3 n3 k3) (row_under Xr.out E5.out) hgb)
              have HZE : Hid ((([] ++ []) ++ [p]) ++ [] = bitsL (insB N (bs.take (j + 1)) M) N) := by
                show _ = _
                rw [HPU.out]
                have : bl = [] := List.eq_nil_of_length_eq_zero HNVL.out
                rw [this]; rfl
              rw [HZE.out] at R3
              have hn4 : n3 = (bitsL (insB N (bs.take (j + 1)) M) N).length := by
                rw [← HZE.out, hn3]
                have := HNVL.out
                simp <;> omega
              rw [hn4] at R3 ⊢
              have VS := Lib.hid (own_low (b1 := base) hbr (own_set (i := 49) (g := gR) (u := .slice a3 n3 k3) R3.out Rr.out.lt))
              have hbs := Nat.le_trans hbr (Nat.le_trans E5.out.size (gb_set (gb_of (Below.refl _ Y12x5) gR) 49 (.slice a3 n3 k3)).size)
              rw [hn4] at RS4 XS VS KS hbs
              clear hn3 hn4 HR3
              go_wp2
              go_roundw
              case rel => exact ⟨j + 1, _, Nat.succ_le_of_lt hlt, by go_num, by rw [← HA2.out, HA3.out], XS, RS4, VS, KS, hbs⟩
              case measure => simp [RowKit.intOf]; omega
        · have hlc : lo ≤ cap := by omega
          obtain ⟨P2, hP2⟩ : ∃ x, x = (if cap = lo then some (⟨g, 0, none⟩ : Addr) else some ⟨g, lo, none⟩) := ⟨_, rfl⟩
          have hr2 := Rd.subP (Rd.own Vr.out) lo (nv - lo) (by omega)
          rw [Nat.zero_add, ← hP2] at hr2
          have HR2 := Lib.hid hr2
          have HP3 : Hid (P2 = none → cap - lo = 0) := by
            show P2 = none → cap - lo = 0
            rw [hP2]; split <;> intro h <;> cases h
          have HP2 := Lib.hid hP2
          clear hr2 hP2
          have c49 := (Rr.out.cell 49).trans RG2.out
          have HCX := Lib.hid (fun i (hi : i < nv) => by obtain ⟨b', o', e', hc⟩ := (Rd.own Vr.out).cells (show 0 < nv by omega); cases e'; exact hc i hi)
          go_upto_block 2 with fail
          go_cut [9] (fun t wx => t = .int .i64 (lo : Int) ∧ Y6x0 = wx)
          case first =>
            go_wp2
            go_loopw [9] (fun t wx => ∃ q : Nat, lo ≤ q ∧ q ≤ nv ∧ t = .int .i64 (q : Int) ∧ Hid (Y6x0 = wx)) (fun t _ => (RowKit.intOf t).toNat)
            case atStart => exact ⟨nv, hlo2, Nat.le_refl _, rfl, rfl⟩
            case round =>
              obtain ⟨q, hq1, hq2, rfl, hwx⟩ := hrel
              obtain rfl := hwx.out
              clear hwx
              by_cases hq0 : q = 0
              · subst hq0
                have d0 : decide (((0 : Nat) : Int) > 0) = false := by decide
                have d01 : decide ((0 : Int) > 0) = false := by decide
                have HLZ : Hid (lo = 0) := by show lo = 0; omega
                go_wp2
                go_meet
                exact ⟨by rw [HLZ.out] <;> rfl, rfl⟩
              · obtain ⟨r, rfl⟩ : ∃ r, q = r + 1 := ⟨q - 1, by omega⟩
                clear hq0
                have cq := HCX.out r (by omega)
                rw [Nat.zero_add] at cq
                have d0 : decide (((r + 1 : Nat) : Int) > 0) = true := decide_eq_true (by omega)
                have d01 : decide ((r : Int) + 1 > 0) = true := decide_eq_true (by omega)
                have d02 : decide (0 < r + 1) = true := decide_eq_true (by omega)
                have w7 : IntKind.i64.wrap (((r + 1 : Nat) : Int) - 1) = (r : Int) := by rw [IntKind.wrap_i64]; omega
                have w8 : IntKind.i64.wrap ((r : Int) + 1 - 1) = (r : Int) := by rw [IntKind.wrap_i64]; omega
                have hb3 : 0 ≤ (r : Int) ∧ (r : Int) < (nv : Int) := by omega
                by_cases hr : lo ≤ r
                · have hgt := HBE.out r hr (by omega)
                  generalize bl.getD r 0 = y at *
                  have d1 : decide ((y : Int) > (p : Int)) = true := decide_eq_true (by omega)
                  have d2 : decide (y > p) = true := decide_eq_true (by omega)
                  have d3 : decide (p < y) = true := decide_eq_true (by omega)
                  clear hgt
                  go_wp2
                  go_roundw
                  case rel => exact ⟨r, hr, by omega, by go_num, by first | exact Lib.hid rfl | exact Lib.hid trivial⟩
                  case measure => simp [RowKit.intOf]
                · have HLR : Hid (lo = r + 1) := by show _ = _; omega
                  have hgt := HAH.out r (by omega)
                  generalize bl.getD r 0 = y at *
                  have d1 : decide ((y : Int) > (p : Int)) = false := decide_eq_false (by omega)
                  have d2 : decide (y > p) = false := decide_eq_false (by omega)
                  have d3 : decide (p < y) = false := decide_eq_false (by omega)
                  clear hgt
                  go_wp2
                  go_meet
                  exact ⟨by rw [HLR.out] <;> (push_cast; rfl), rfl⟩
          case rest =>
            obtain ⟨rfl, hw⟩ := hcut
            subst hw
            go_upto_region 12 with fail
            have hlow : Y6x0.heap.size ≤ Y6x0.heap.size := Nat.le_refl _
            refine wp_region_held_last (n := 21) (S := (fun w' : World => Below (Y6x0.heap.size) Y6x0 w')) (by kernel_rfl) (by kernel_rfl) ?_
            simp only [List.pop_toArray, List.dropLast_cons_cons, List.dropLast_singleton]
            change wpAnyH _ _ _ _ _ _ _ _ Y6x0.drew
            have hE0 : Below (Y6x0.heap.size) Y6x0 Y6x0.drew := (Below.refl _ _).drew
            generalize Y6x0.drew = Y12x0 at hE0 ⊢
            have E0 := Lib.hid hE0
            clear hE0
            refine tkA 0 (?_) ?_ E0.out ?_
            rotate_left
            · (intro w1 hS; go_simp; try with_reducible rfl)
            simp only [Act.put, tS1, tS2, tS3]
            refine tkA 2 (?_) ?_ E0.out ?_
            rotate_left
            · (intro w1 hS; go_simp; try with_reducible rfl)
            simp only [Act.put, tS1, tS2, tS3]
            refine tkA 3 (?_) ?_ E0.out ?_
            rotate_left
            · (intro w1 hS; go_simp; try with_reducible rfl)
            simp only [Act.put, tS1, tS2, tS3]
            refine tkA 4 (?_) ?_ E0.out ?_
            rotate_left
            · (intro w1 hS; go_simp; try with_reducible rfl)
            simp only [Act.put, tS1, tS2, tS3]
            refine tkA 5 (?_) ?_ E0.out ?_
            rotate_left
            · (intro w1 hS; have hW := hS; have q := ((Rr.out.below hW Rr.out.lt).cell 49).trans RG2.out; clear hW hS; go_simp; try with_reducible rfl)
            simp only [Act.put, tS1, tS2, tS3]
            refine tkA 6 (?_) ?_ E0.out ?_
            rotate_left
            · (intro w1 hS; go_simp; try with_reducible rfl)
            simp only [Act.put, tS1, tS2, tS3]
            refine tkA 7 (?_) ?_ E0.out ?_
            rotate_left
            · (intro w1 hS; have hW := hS; have q : (lo : Int) ≤ (cap : Int) := (by omega); clear hW hS; go_simp; try with_reducible rfl)
            simp only [Act.put, tS1, tS2, tS3]
            refine tkA 9 (?_) ?_ E0.out ?_
            rotate_left
            · (intro w1 hS; go_simp; try with_reducible rfl)
            simp only [Act.put, tS1, tS2, tS3]
            refine tkA 12 (?_) ?_ E0.out ?_
            rotate_left
            · (intro w1 hS; go_simp; try with_reducible rfl)
            simp only [Act.put, tS1, tS2, tS3]
            refine tkA 13 (?_) ?_ E0.out ?_
            rotate_left
            · (intro w1 hS; go_simp; try with_reducible rfl)
            simp only [Act.put, tS1, tS2, tS3]
            refine tkA 14 (?_) ?_ E0.out ?_
            rotate_left
            · (intro w1 hS; go_simp; try with_reducible rfl)
            simp only [Act.put, tS1, tS2, tS3]
            refine tkA 15 (?_) ?_ E0.out ?_
            rotate_left
            · (intro w1 hS; have hW := hS; have q := ((Rr.out.below hW Rr.out.lt).cell 49).trans RG2.out; clear hW hS; go_simp; try with_reducible rfl)
            simp only [Act.put, tS1, tS2, tS3]
            refine tkA 16 (?_) ?_ E0.out ?_
            rotate_left
            · (intro w1 hS; go_simp; try with_reducible rfl)
            simp only [Act.put, tS1, tS2, tS3]
            refine tkA 17 (?_) ?_ E0.out ?_
            rotate_left
            · (intro w1 hS; have hW := hS; have q : (lo : Int) ≤ (nv : Int) := (by omega); have q2 := HP2.out.symm; clear hW hS; go_simp; try with_reducible rfl)
            simp only [Act.put, tS1, tS2, tS3]
            refine wpAnyH_ready (rs := [1, 10]) (by kernel_rfl) (by simp) ?_
            refine AllReadyH.cons (o := { dst := some 56, op := Op.buildSlice 22 0 #[], type := 22, pos := "table.go:187", after := #[], guard := none }) rfl (fun KK hK => ?_) (AllReadyH.cons (o := { dst := some 65, op := Op.buildSlice 22 1 #[(0, Operand.tmp 64)], type := 22, pos := "table.go:187", after := #[{ on := 9, ground := Ground.data }], guard := none }) rfl (fun KK hK => ?_) AllReadyH.nil)
            · go_simp
              have hr := own_none Y12x0 3
              have hy := (Below.refl Y12x0.heap.size Y12x0).alloc (Nat.le_refl _) (.cells #[] 3)
              generalize Y12x0.alloc (.cells #[] 3) = Y12x1 at hr hy ⊢
              have qs0 : Y12x0.heap.size < Y12x1.heap.size := (hr.lt _ rfl).2
              have R0 := Lib.hid (own_low (b1 := Y6x0.heap.size) E0.out.size hr)
              have E1 := Lib.hid (E0.out.trans (hy.mono E0.out.size))
              clear hr hy E0
              refine hK.out _ _ E1.out (fun _ => ?_)
              clear hK KK
              try simp only [Act.put, tS1, tS2, tS3]
              refine wpAnyH_ready (rs := [8, 10]) (by kernel_rfl) (by simp) ?_
              refine AllReadyH.cons (o := { dst := some 63, op := Op.call { callee := Callee.builtin Builtin.append, args := #[Operand.tmp 56, Operand.tmp 62], argTypes := #[22, 22] }, type := 22, pos := "table.go:187", after := #[{ on := 1, ground := Ground.data }, { on := 7, ground := Ground.data }], guard := none }) rfl (fun KK hK => ?_) (AllReadyH.cons (o := { dst := some 65, op := Op.buildSlice 22 1 #[(0, Operand.tmp 64)], type := 22, pos := "table.go:187", after := #[{ on := 9, ground := Ground.data }], guard := none }) rfl (fun KK hK => ?_) AllReadyH.nil)
              · rw [if_pos (by rfl)]
                refine wpI_apps (.tmp 56) (.tmp 62) rfl (Y6x0.heap.size) (.slice (some ⟨Y12x0.heap.size, 0, none⟩) 0 0) 0 [] rfl R0.out (some ⟨g, 0, none⟩) lo cap (bl.take lo) rfl (((Rd.own Vr.out).below E1.out).front lo (by rw [HNVL.out]; omega)) (fun e => by cases e) (by omega) E1.out.size ?_
                intro v1 Y12x2 oz gz
                have E2 := Lib.hid (E1.out.grown gz E1.out.size (fun q e => (R0.out.lt q e).1))
                have R1 := Lib.hid oz
                clear oz gz R0 E1
                refine hK.out _ _ E2.out (fun _ => ?_)
                clear hK KK
                try simp only [Act.put, tS1, tS2, tS3]
                refine tkO 10 (fun KK hK => ?_)
                rw [if_pos (by rfl)]
                refine wpI_one (.tmp 64) rfl p rfl ?_
                intro Y12x3 hm hy
                have qb2 := hm.lt
                have MB := Lib.hid hm
                replace R1 := Lib.hid (row_under R1.out hy)
                have E3 := Lib.hid (E2.out.trans (hy.mono E2.out.size))
                clear hm hy E2
                refine hK.out _ _ E3.out (fun _ => ?_)
                clear hK KK
                try simp only [Act.put, tS1, tS2, tS3]
                refine tkO 11 (fun KK hK => ?_)
                rw [if_pos (by rfl)]
                refine wpI_app (.tmp 63) (.tmp 65) rfl (Y6x0.heap.size) v1 (0 + lo) ([] ++ bl.take lo) rfl R1.out Y12x2.heap.size p rfl MB.out (by omega) E3.out.size ?_
                intro v2 Y12x4 oz gz
                have E4 := Lib.hid (E3.out.grown gz E3.out.size (fun q e => (R1.out.lt q e).1))
                have R2 := Lib.hid oz
                clear oz gz R1 MB E3
                refine hK.out _ _ E4.out (fun _ => ?_)
                clear hK KK
                try simp only [Act.put, tS1, tS2, tS3]
                refine tkO 18 (fun KK hK => ?_)
                rw [if_pos (by rfl)]
                refine wpI_apps (.tmp 66) (.tmp 72) rfl (Y6x0.heap.size) v2 (0 + lo + 1) (([] ++ bl.take lo) ++ [p]) rfl R2.out P2 (nv - lo) (cap - lo) ((bl.drop lo).take (nv - lo)) rfl (HR2.out.below E4.out) HP3.out (by omega) E4.out.size ?_
                intro v3 Y12x5 oz gz
                have E5 := Lib.hid (E4.out.grown gz E4.out.size (fun q e => (R2.out.lt q e).1))
                have R3 := Lib.hid oz
                clear oz gz R2 E4
                refine hK.out _ _ E5.out (fun _ => ?_)
                clear hK KK
                try simp only [Act.put, tS1, tS2, tS3]
                refine tkA 19 (?_) ?_ E5.out ?_
                rotate_left
                · (intro w1 hS; go_simp; try with_reducible rfl)
                simp only [Act.put, tS1, tS2, tS3]
                refine tkA 20 (?_) ?_ E5.out ?_
                rotate_left
                · (intro w1 hS; go_simp; try with_reducible rfl)
                simp only [Act.put, tS1, tS2, tS3]
                refine wpAnyH_done (by kernel_rfl) ?_ _
                refine op_last ?_
                have HR3 := Lib.hid (Rr.out.below E5.out Rr.out.lt)
                have c49 := (HR3.out.cell 49).trans RG2.out
                have f49 := HR3.out.frozen 49
                obtain ⟨a3, k3, hv3⟩ := row_shape R3.out
                subst hv3
                obtain ⟨n3, hn3⟩ : ∃ n3, n3 = (0 + lo + 1 + (nv - lo)) := ⟨_, rfl⟩
                rw [← hn3] at R3 ⊢
                have KS := Lib.hid (gb_set (gb_below Kr.out E5.out) 49 (.slice a3 n3 k3))
                have RS4 := Lib.hid (HR3.out.set_ 49 (.slice a3 n3 k3))
                rw [RS.out] at RS4
                have XS := Lib.hid (own_set (i := 49) (u := .slice a3 n3 k3) (row_under Xr.out E5.out) hgb)
                have HZE : Hid ((([] ++ bl.take lo) ++ [p]) ++ (bl.drop lo).take (nv - lo) = bitsL (insB N (bs.take (j + 1)) M) N) := by
                  show _ = _
                  rw [HPU.out, List.nil_append, drop_all bl nv lo HNVL.out]
                rw [HZE.out] at R3
                have hn4 : n3 = (bitsL (insB N (bs.take (j + 1)) M) N).length := by
                  rw [← HZE.out, hn3]
                  have := HNVL.out
                  simp <;> omega
                rw [hn4] at R3 ⊢
                have VS := Lib.hid (own_low (b1 := base) hbr (own_set (i := 49) (g := gR) (u := .slice a3 n3 k3) R3.out Rr.out.lt))
                have hbs := Nat.le_trans hbr (Nat.le_trans E5.out.size (gb_set (gb_of (Below.refl _ Y12x5) gR) 49 (.slice a3 n3 k3)).size)
                rw [hn4] at RS4 XS VS KS hbs
                clear hn3 hn4 HR3
                go_wp2
                go_roundw
                case rel => exact ⟨j + 1, _, Nat.succ_le_of_lt hlt, by go_num, by rw [← HA2.out, HA3.out], XS, RS4, VS, KS, hbs⟩
                case measure => simp [RowKit.intOf]; omega
              · rw [if_pos (by rfl)]
                refine wpI_one (.tmp 64) rfl p rfl ?_
                intro Y12x2 hm hy
                have qb1 := hm.lt
                have MB := Lib.hid hm
                replace R0 := Lib.hid (row_under R0.out hy)
                have E2 := Lib.hid (E1.out.trans (hy.mono E1.out.size))
                clear hm hy E1
                refine hK.out _ _ E2.out (fun _ => ?_)
                clear hK KK
                try simp only [Act.put, tS1, tS2, tS3]
                refine tkO 8 (fun KK hK => ?_)
                rw [if_pos (by rfl)]
                refine wpI_apps (.tmp 56) (.tmp 62) rfl (Y6x0.heap.size) (.slice (some ⟨Y12x0.heap.size, 0, none⟩) 0 0) 0 [] rfl R0.out (some ⟨g, 0, none⟩) lo cap (bl.take lo) rfl (((Rd.own Vr.out).below E2.out).front lo (by rw [HNVL.out]; omega)) (fun e => by cases e) (by omega) E2.out.size ?_
                intro v1 Y12x3 oz gz
                have mb := gz.block Y12x1.heap.size MB.out.lt (fun e => by simp [Value.ownBlock] at e; omega)
                replace MB := Lib.hid (show Blk _ _ _ _ from mb.trans MB.out)
                clear mb
                have E3 := Lib.hid (E2.out.grown gz E2.out.size (fun q e => (R0.out.lt q e).1))
                have R1 := Lib.hid oz
                clear oz gz R0 E2
                refine hK.out _ _ E3.out (fun _ => ?_)
                clear hK KK
                try simp only [Act.put, tS1, tS2, tS3]
                refine tkO 11 (fun KK hK => ?_)
                rw [if_pos (by rfl)]
                refine wpI_app (.tmp 63) (.tmp 65) rfl (Y6x0.heap.size) v1 (0 + lo) ([] ++ bl.take lo) rfl R1.out Y12x1.heap.size p rfl MB.out (by omega) E3.out.size ?_
                intro v2 Y12x4 oz gz
                have E4 := Lib.hid (E3.out.grown gz E3.out.size (fun q e => (R1.out.lt q e).1))
                have R2 := Lib.hid oz
                clear oz gz R1 MB E3
                refine hK.out _ _ E4.out (fun _ => ?_)
                clear hK KK
                try simp only [Act.put, tS1, tS2, tS3]
                refine tkO 18 (fun KK hK => ?_)
                rw [if_pos (by rfl)]
                refine wpI_apps (.tmp 66) (.tmp 72) rfl (Y6x0.heap.size) v2 (0 + lo + 1) (([] ++ bl.take lo) ++ [p]) rfl R2.out P2 (nv - lo) (cap - lo) ((bl.drop lo).take (nv - lo)) rfl (HR2.out.below E4.out) HP3.out (by omega) E4.out.size ?_
                intro v3 Y12x5 oz gz
                have E5 := Lib.hid (E4.out.grown gz E4.out.size (fun q e => (R2.out.lt q e).1))
                have R3 := Lib.hid oz
                clear oz gz R2 E4
                refine hK.out _ _ E5.out (fun _ => ?_)
                clear hK KK
                try simp only [Act.put, tS1, tS2, tS3]
                refine tkA 19 (?_) ?_ E5.out ?_
                rotate_left
                · (intro w1 hS; go_simp; try with_reducible rfl)
                simp only [Act.put, tS1, tS2, tS3]
                refine tkA 20 (?_) ?_ E5.out ?_
                rotate_left
                · (intro w1 hS; go_simp; try with_reducible rfl)
                simp only [Act.put, tS1, tS2, tS3]
                refine wpAnyH_done (by kernel_rfl) ?_ _
                refine op_last ?_
                have HR3 := Lib.hid (Rr.out.below E5.out Rr.out.lt)
                have c49 := (HR3.out.cell 49).trans RG2.out
                have f49 := HR3.out.frozen 49
                obtain ⟨a3, k3, hv3⟩ := row_shape R3.out
                subst hv3
                obtain ⟨n3, hn3⟩ : ∃ n3, n3 = (0 + lo + 1 + (nv - lo)) := ⟨_, rfl⟩
                rw [← hn3] at R3 ⊢
                have KS := Lib.hid (gb_set (gb_below Kr.out E5.out) 49 (.slice a3 n3 k3))
                have RS4 := Lib.hid (HR3.out.set_ 49 (.slice a3 n3 k3))
                rw [RS.out] at RS4
                have XS := Lib.hid (own_set (i := 49) (u := .slice a3 n3 k3) (row_under Xr.out E5.out) hgb)
                have HZE : Hid ((([] ++ bl.take lo) ++ [p]) ++ (bl.drop lo).take (nv - lo) = bitsL (insB N (bs.take (j + 1)) M) N) := by
                  show _ = _
                  rw [HPU.out, List.nil_append, drop_all bl nv lo HNVL.out]
                rw [HZE.out] at R3
                have hn4 : n3 = (bitsL (insB N (bs.take (j + 1)) M) N).length := by
                  rw [← HZE.out, hn3]
                  have := HNVL.out
                  simp <;> omega
                rw [hn4] at R3 ⊢
                have VS := Lib.hid (own_low (b1 := base) hbr (own_set (i := 49) (g := gR) (u := .slice a3 n3 k3) R3.out Rr.out.lt))
                have hbs := Nat.le_trans hbr (Nat.le_trans E5.out.size (gb_set (gb_of (Below.refl _ Y12x5) gR) 49 (.slice a3 n3 k3)).size)
                rw [hn4] at RS4 XS VS KS hbs
                clear hn3 hn4 HR3
                go_wp2
                go_roundw
                case rel => exact ⟨j + 1, _, Nat.succ_le_of_lt hlt, by go_num, by rw [← HA2.out, HA3.out], XS, RS4, VS, KS, hbs⟩
                case measure => simp [RowKit.intOf]; omega
            · rw [if_pos (by rfl)]
              refine wpI_one (.tmp 64) rfl p rfl ?_
              intro Y12x1 hm hy
              have qb0 := hm.lt
              have MB := Lib.hid hm
              have E1 := Lib.hid (E0.out.trans (hy.mono E0.out.size))
              clear hm hy E0
              refine hK.out _ _ E1.out (fun _ => ?_)
              clear hK KK
              try simp only [Act.put, tS1, tS2, tS3]
              refine tkO 1 (fun KK hK => ?_)
              go_simp
              have hr := own_none Y12x1 3
              have hy := (Below.refl Y12x1.heap.size Y12x1).alloc (Nat.le_refl _) (.cells #[] 3)
              generalize Y12x1.alloc (.cells #[] 3) = Y12x2 at hr hy ⊢
              have qs1 : Y12x1.heap.size < Y12x2.heap.size := (hr.lt _ rfl).2
              have R0 := Lib.hid (own_low (b1 := Y6x0.heap.size) E1.out.size hr)
              replace MB := Lib.hid (MB.out.below hy MB.out.lt)
              have E2 := Lib.hid (E1.out.trans (hy.mono E1.out.size))
              clear hr hy E1
              refine hK.out _ _ E2.out (fun _ => ?_)
              clear hK KK
              try simp only [Act.put, tS1, tS2, tS3]
              refine tkO 8 (fun KK hK => ?_)
              rw [if_pos (by rfl)]
              refine wpI_apps (.tmp 56) (.tmp 62) rfl (Y6x0.heap.size) (.slice (some ⟨Y12x1.heap.size, 0, none⟩) 0 0) 0 [] rfl R0.out (some ⟨g, 0, none⟩) lo cap (bl.take lo) rfl (((Rd.own Vr.out).below E2.out).front lo (by rw [HNVL.out]; omega)) (fun e => by cases e) (by omega) E2.out.size ?_
              intro v1 Y12x3 oz gz
              have mb := gz.block Y12x0.heap.size MB.out.lt (fun e => by simp [Value.ownBlock] at e; omega)
              replace MB := Lib.hid (show Blk _ _ _ _ from mb.trans MB.out)
              clear mb
              have E3 := Lib.hid (E2.out.grown gz E2.out.size (fun q e => (R0.out.lt q e).1))
              have R1 := Lib.hid oz
              clear oz gz R0 E2
              refine hK.out _ _ E3.out (fun _ => ?_)
              clear hK KK
              try simp only [Act.put, tS1, tS2, tS3]
              refine tkO 11 (fun KK hK => ?_)
              rw [if_pos (by rfl)]
              refine wpI_app (.tmp 63) (.tmp 65) rfl (Y6x0.heap.size) v1 (0 + lo) ([] ++ bl.take lo) rfl R1.out Y12x0.heap.size p rfl MB.out (by omega) E3.out.size ?_
              intro v2 Y12x4 oz gz
              have E4 := Lib.hid (E3.out.grown gz E3.out.size (fun q e => (R1.out.lt q e).1))
              have R2 := Lib.hid oz
              clear oz gz R1 MB E3
              refine hK.out _ _ E4.out (fun _ => ?_)
              clear hK KK
              try simp only [Act.put, tS1, tS2, tS3]
              refine tkO 18 (fun KK hK => ?_)
              rw [if_pos (by rfl)]
              refine wpI_apps (.tmp 66) (.tmp 72) rfl (Y6x0.heap.size) v2 (0 + lo + 1) (([] ++ bl.take lo) ++ [p]) rfl R2.out P2 (nv - lo) (cap - lo) ((bl.drop lo).take (nv - lo)) rfl (HR2.out.below E4.out) HP3.out (by omega) E4.out.size ?_
              intro v3 Y12x5 oz gz
              have E5 := Lib.hid (E4.out.grown gz E4.out.size (fun q e => (R2.out.lt q e).1))
              have R3 := Lib.hid oz
              clear oz gz R2 E4
              refine hK.out _ _ E5.out (fun _ => ?_)
              clear hK KK
              try simp only [Act.put, tS1, tS2, tS3]
              refine tkA 19 (?_) ?_ E5.out ?_
              rotate_left
              · (intro w1 hS; go_simp; try with_reducible rfl)
              simp only [Act.put, tS1, tS2, tS3]
              refine tkA 20 (?_) ?_ E5.out ?_
              rotate_left
              · (intro w1 hS; go_simp; try with_reducible rfl)
              simp only [Act.put, tS1, tS2, tS3]
              refine wpAnyH_done (by kernel_rfl) ?_ _
              refine op_last ?_
              have HR3 := Lib.hid (Rr.out.below E5.out Rr.out.lt)
              have c49 := (HR3.out.cell 49).trans RG2.out
              have f49 := HR3.out.frozen 49
              obtain ⟨a3, k3, hv3⟩ := row_shape R3.out
              subst hv3
              obtain ⟨n3, hn3⟩ : ∃ n3, n3 = (0 + lo + 1 + (nv - lo)) := ⟨_, rfl⟩
              rw [← hn3] at R3 ⊢
              have KS := Lib.hid (gb_set (gb_below Kr.out E5.out) 49 (.slice a3 n3 k3))
              have RS4 := Lib.hid (HR3.out.set_ 49 (.slice a3 n3 k3))
              rw [RS.out] at RS4
              have XS := Lib.hid (own_set (i := 49) (u := .slice a3 n3 k3) (row_under Xr.out E5.out) hgb)
              have HZE : Hid ((([] ++ bl.take lo) ++ [p]) ++ (bl.drop lo).take (nv - lo) = bitsL (insB N (bs.take (j + 1)) M) N) := by
                show _ = _
                rw [HPU.out, List.nil_append, drop_all bl nv lo HNVL.out]
              rw [HZE.out] at R3
              have hn4 : n3 = (bitsL (insB N (bs.take (j + 1)) M) N).length := by
                rw [← HZE.out, hn3]
                have := HNVL.out
                simp <;> omega
              rw [hn4] at R3 ⊢
              have VS := Lib.hid (own_low (b1 := base) hbr (own_set (i := 49) (g := gR) (u := .slice a3 n3 k3) R3.out Rr.out.lt))
              have hbs := Nat.le_trans hbr (Nat.le_trans E5.out.size (gb_set (gb_of (Below.refl _ Y12x5) gR) 49 (.slice a3 n3 k3)).size)
              rw [hn4] at RS4 XS VS KS hbs
              clear hn3 hn4 HR3
              go_wp2
              go_roundw
              case rel => exact ⟨j + 1, _, Nat.succ_le_of_lt hlt, by go_num, by rw [← HA2.out, HA3.out], XS, RS4, VS, KS, hbs⟩
              case measure => simp [RowKit.intOf]; omega
    · obtain rfl : j = n := by omega
      have d8 : decide (((j : Nat) : Int) < (j : Int)) = false := decide_eq_false (by omega)
      have d9 : decide (j < j) = false := decide_eq_false (by omega)
      have HA : Hid (bs.take j = bs) := by show _ = _; rw [← HNL.out, List.take_length]
      rw [HA.out] at Vr
      go_wp2
      go_ret
      exact ⟨by rw [HA.out]; rfl, ⟨u, Rr.out, Vr.out⟩, Kr.out⟩
end Go.Proofs.YtcgaibkpdihncaaDoor
