/- Texts that the walks of this seat lean on, put together. -/
import Derived.StillTailTactics
import Derived.Deep.CutBlock
import Derived.Deep.DeepCutAuto
import Derived.LoopTactic
import Derived.Handy
import Derived.Test.YtcgaibkpdihncaaDoorTk
import Derived.Test.YtcgaibkpdihncaaDoorM33
import Derived.Test.YtcgaibkpdihncaaDoorM39
import Derived.Test.YtcgaibkpdihncaaDoorM43
namespace Go.Proofs.YtcgaibkpdihncaaDoor
open Go.RowKit Go.Lib
theorem kA_hs (c : Cf) (k : Fl) (hv : vK k = true) (hs : c.hs = 4) : btN c k ≠ [] ∧ (btN c k).length = 4 := by
  have h := btN_len_yes (c := c) hv
  rw [hs] at h
  refine ⟨fun e => ?_, h⟩
  rw [e] at h; cases h
set_option maxRecDepth 100000 in
set_option maxHeartbeats 4000000 in
theorem awake_any (w : World) (hE : Env w) : Calls Tryd.prog 7 #[] w fun e w' => e = .returned (.bool true) ∧ Below w.heap.size w w' := by
  have K := Lib.hid (Below.refl w.heap.size w)
  have EN := Lib.hid hE
  obtain ⟨ZK, hZK⟩ : ∃ Z, Z = k0.cs := ⟨_, rfl⟩
  have z31 : Hid (∀ W, (zeroValue 43).run Tryd.prog W = .ok (.agg ZK) W) := by rw [hZK]; exact zero31
  have hZKS : ZK.size = 37 := by rw [hZK]; exact Fl.cs_size _ k0_fit
  have CR := Lib.hid roomy_any
  have CK := Lib.hid (fun W => flow_any 5 false false W)
  change Hid (∀ W, Calls Tryd.prog 12 #[.int .i64 5, .bool false, .bool false] W fun e w' => e = .returned (.agg kA.cs) ∧ Below W.heap.size W w') at CK
  obtain ⟨c, hcr⟩ : ∃ c, c = rmy := ⟨_, rfl⟩
  have hc : c.Fit := by rw [hcr]; exact rmy_fit
  have hok : okC c = true := by rw [hcr]; exact rmy_ok
  have hhs : c.hs = 4 := by rw [hcr]; rfl
  rw [← hcr] at CR
  obtain ⟨k, hka⟩ : ∃ k, k = kA := ⟨_, rfl⟩
  have hk : k.Fit := by rw [hka]; exact kA_fit
  have hv : vK k = true := by rw [hka]; exact kA_v
  rw [← hka] at CK
  clear hcr hka hZK
  have CN := Lib.hid (fun W => new_yes c hc hok W)
  have CB := Lib.hid (fun gf W h1 h2 => fs_new c gf 64 (by decide) (by decide) W h1 h2)
  rw [show ((64 : Nat) : Int) = 64 from rfl] at CB
  have CB0 := Lib.hid (fun W => bnew_nil 64 W)
  have CB1 := Lib.hid (fun g W => bnew_no 0 g (by decide) W)
  have CI := Lib.hid (fun gf gF gW N L M W h => fs_ins c hc hok k hk hv gf gF gW N L M W h)
  have CH := Lib.hid (fun gf gF gW N L M W h => fs_has c hc hok k hk hv gf gF gW N L M W h)
  have CC := Lib.hid (fun gf gF gW N L M W h => fs_count c gf gF gW N L M W h)
  have CL := Lib.hid (fun gf gF gW N L M W h => fs_clear c gf gF gW N L M W h)
  have CHN := Lib.hid (fun W => has_nil k hk W)
  have CIN := Lib.hid (fun W => ins_nil k hk W)
  have CCN := Lib.hid count_nil
  obtain ⟨hbn, hbl⟩ := kA_hs c k hv hhs
  have H1 := Lib.hid (hasB_zero 64 (btN c k) hbn)
  have H2 := Lib.hid (hasB_ins 64 (btN c k) 0)
  have H3 := Lib.hid (insB_has 64 (btN c k) _ H2.out)
  have hl1 := len_fresh 64 (btN c k) 0 (by decide)
  rw [H1.out, bitsL_zero, Bool.not_false] at hl1
  have hl2 := (len_insB 64 (btN c k) 0 (by decide)).2
  rw [bitsL_zero, hbl] at hl2
  have H4 : Hid (1 ≤ (bitsL (insB 64 (btN c k) 0) 64).length ∧ (bitsL (insB 64 (btN c k) 0) 64).length ≤ 4) := by
    refine ⟨?_, by simpa using hl2⟩
    have := of_decide_eq_true hl1
    exact this
  have H5 : Hid ((bitsL 0 64).length = 0) := by show _ = 0; rw [bitsL_zero]; rfl
  generalize btN c k = bk at *
  obtain ⟨M1, hM1⟩ : ∃ M1, M1 = insB 64 bk 0 := ⟨_, rfl⟩
  rw [← hM1] at H2 H3 H4
  have HM := Lib.hid hM1
  have KY : Hid (k.cs.size = ZK.size) := by show _ = _; rw [Fl.cs_size _ hk, hZKS]
  have KZ := Lib.hid (fl_ik k hk)
  have KA := Lib.hid (Fl.cs_all k)
  generalize c.cs = cc at *
  generalize k.cs = kc at *
  have hq := eqp_some
  have qE := hE.lt
  clear hc hok hhs hk hv hbn hbl hl1 hl2 hM1 hZKS hE
  go_enter Tryd.func7, Tryd.ntmps7
  go_wp2_with fail
  refine (CR.out w).mono ?_
  rintro e V1 ⟨rfl, hy⟩
  replace K := Lib.hid (K.out.trans (hy.mono K.out.size))
  replace EN := Lib.hid (EN.out.below hy EN.out.lt)
  clear hy
  go_wp2_with fail
  refine (CN.out V1).mono ?_
  rintro e V2 ⟨⟨gf, rfl, hgf, hF⟩, hy⟩
  replace K := Lib.hid (K.out.trans (hy.mono K.out.size))
  replace EN := Lib.hid (EN.out.below hy EN.out.lt)
  have F := Lib.hid hF
  clear hF
  clear hy
  go_wp2_with fail
  have qK := K.out.size
  refine (CB.out gf V2 F.out EN.out).mono ?_
  rintro e V3 ⟨⟨gF, gW, L, rfl, hS, hgW, hgF⟩, hy⟩
  replace K := Lib.hid (K.out.trans (hy.mono K.out.size))
  replace F := Lib.hid (F.out.below hy F.out.lt)
  have hgW2 : w.heap.size ≤ gW := Nat.le_trans qK hgW
  have S := Lib.hid hS
  clear hS hgf hgF EN F
  clear hy
  go_wp2_with fail
  refine (CB0.out V3).mono ?_
  rintro e V4 ⟨rfl, hy⟩
  replace K := Lib.hid (K.out.trans (hy.mono K.out.size))
  replace S := Lib.hid (S.out.below hy)
  clear hy
  go_wp2_with fail
  refine (CB1.out gf V4).mono ?_
  rintro e V5 ⟨rfl, hy⟩
  replace K := Lib.hid (K.out.trans (hy.mono K.out.size))
  replace S := Lib.hid (S.out.below hy)
  clear hy
  have z31o := z31.out
  go_wp2_with fail
  refine (CK.out V5).mono ?_
  rintro e V6 ⟨rfl, hy⟩
  replace K := Lib.hid (K.out.trans (hy.mono K.out.size))
  replace S := Lib.hid (S.out.below hy)
  have qK2 := K.out.size
  have qW2 := S.out.lt
  clear hy
  go_wp2_with (((with_reducible refine wpList_blk_store (op := ⟨none, .store 43 (.tmp 9) (.tmp 40), _, _, _, _⟩) ?sg1 43 (.tmp 9) (.tmp 40) ?so1 (V6.heap.size) kc ?sx1 ?sy1 (Blk.new V6 43 ZK) KY.out KZ.out KA.out ?_); (case sg1 => rfl); (case so1 => rfl); (case sx1 => rfl); (case sy1 => rfl)))
  intro V7 hA hF hB
  have hy := ((Below.refl V6.heap.size V6).alloc (Nat.le_refl _) (.cells ZK 43)).trans (hB _ (Nat.le_refl _))
  replace K := Lib.hid (K.out.trans (hy.mono K.out.size))
  replace S := Lib.hid (S.out.below hy)
  have N := Lib.hid hA
  clear hA hF hB hy
  clear z31o z31
  go_wp2_with fail
  generalize V6.heap.size = gk at *
  have hkW : gk ≠ gW := by omega
  go_wp2_with fail
  refine wp_region_held (S := (fun w' : World => Blk w' (gk) 43 kc)) (by kernel_rfl) ?_
  change wpAnyH _ _ _ _ _ _ _ _ V7.drew
  have hy : Below V7.heap.size V7 V7.drew := (Below.refl _ _).drew
  replace K := Lib.hid (K.out.trans (hy.mono K.out.size))
  replace S := Lib.hid (S.out.below hy)
  replace N := Lib.hid (N.out.below hy N.out.lt)
  clear hy
  generalize V7.drew = Y8h0 at *
  refine tkA 0 (?_) ?_ N.out ?_
  rotate_left
  · (intro w1 hS; go_simp; try with_reducible rfl)
  simp only [Act.put, tS1, tS2, tS3]
  refine tkA 1 (.agg kc) ?_ N.out ?_
  · (intro w1 hS; exact exec_load 43 (.tmp 9) rfl _ rfl _ (run_blk_load (P := Tryd.prog) 43 (gk) _ hS Tryd.underlying43 rfl KZ.out))
  simp only [Act.put, tS1, tS2, tS3]
  refine tkA 3 (?_) ?_ N.out ?_
  rotate_left
  · (intro w1 hS; go_simp; try with_reducible rfl)
  simp only [Act.put, tS1, tS2, tS3]
  refine tkA 4 (.agg kc) ?_ N.out ?_
  · (intro w1 hS; exact exec_load 43 (.tmp 9) rfl _ rfl _ (run_blk_load (P := Tryd.prog) 43 (gk) _ hS Tryd.underlying43 rfl KZ.out))
  simp only [Act.put, tS1, tS2, tS3]
  refine tkO 2 (fun KK hK => ?_)
  go_simp
  refine (CI.out gf gF gW 64 L 0 Y8h0 S.out).mono ?_
  rintro e Y8h1 ⟨rfl, hs, gr⟩
  have hgr := gr
  replace K := Lib.hid (K.out.grown gr K.out.size (fun k e => by cases e; exact hgW2))
  replace N := Lib.hid (show Blk _ _ _ _ from (gr.block _ N.out.lt (fun e => hkW (by cases e; rfl))).trans N.out)
  replace S := Lib.hid hs
  clear hs gr hgr
  rw [← HM.out] at S
  rw [H1.out]
  refine hK.out _ _ N.out (fun _ => ?_)
  clear hK KK
  try simp only [Act.put, tS1, tS2, tS3]
  refine tkO 5 (fun KK hK => ?_)
  go_simp
  refine (CI.out gf gF gW 64 L M1 Y8h1 S.out).mono ?_
  rintro e Y8h2 ⟨rfl, hs, gr⟩
  have hgr := gr
  replace K := Lib.hid (K.out.grown gr K.out.size (fun k e => by cases e; exact hgW2))
  replace N := Lib.hid (show Blk _ _ _ _ from (gr.block _ N.out.lt (fun e => hkW (by cases e; rfl))).trans N.out)
  replace S := Lib.hid hs
  clear hs gr hgr
  rw [H3.out] at S
  rw [H2.out]
  refine hK.out _ _ N.out (fun _ => ?_)
  clear hK KK
  try simp only [Act.put, tS1, tS2, tS3]
  refine tkA 6 (?_) ?_ N.out ?_
  rotate_left
  · (intro w1 hS; go_simp; try with_reducible rfl)
  simp only [Act.put, tS1, tS2, tS3]
  refine tkA 7 (?_) ?_ N.out ?_
  rotate_left
  · (intro w1 hS; go_simp; try with_reducible rfl)
  simp only [Act.put, tS1, tS2, tS3]
  refine wpAnyH_done (by kernel_rfl) ?_ _
  have h4 := H4.out
  have L2 : (loadVar 43 ⟨gk, 0, none⟩).run Tryd.prog Y8h2 = .ok (.agg kc) Y8h2 := run_blk_load (P := Tryd.prog) 43 (gk) _ N.out Tryd.underlying43 rfl KZ.out
  replace L2 := Lib.hid L2
  go_wp2_with (((with_reducible refine wpList_load_want (op := ⟨some 48, .load 43 (.tmp 9), _, _, _, _⟩) ?wg2 43 (.tmp 9) ?wo2 ⟨gk, 0, none⟩ ?wx2 (.agg kc) L2.out ?_); (case wg2 => rfl); (case wo2 => rfl); (case wx2 => rfl)))
  clear L2
  refine (CH.out gf gF gW 64 L M1 Y8h2 S.out).mono ?_
  rintro e V8 ⟨rfl, hy⟩
  replace K := Lib.hid (K.out.trans (hy.mono K.out.size))
  replace S := Lib.hid (S.out.below hy)
  replace N := Lib.hid (N.out.below hy N.out.lt)
  rw [H2.out]
  clear hy
  go_wp2_with fail
  refine (CC.out gf gF gW 64 L M1 V8 S.out).mono ?_
  rintro e V9 ⟨rfl, hy⟩
  replace K := Lib.hid (K.out.trans (hy.mono K.out.size))
  replace S := Lib.hid (S.out.below hy)
  replace N := Lib.hid (N.out.below hy N.out.lt)
  clear hy
  go_wp2_with fail
  refine (CL.out gf gF gW 64 L M1 V9 S.out).mono ?_
  rintro e V10 ⟨⟨v, rfl⟩, hs, gr⟩
  have hgr := gr
  replace K := Lib.hid (K.out.grown gr K.out.size (fun k e => by cases e; exact hgW2))
  replace N := Lib.hid (show Blk _ _ _ _ from (gr.block _ N.out.lt (fun e => hkW (by cases e; rfl))).trans N.out)
  replace S := Lib.hid hs
  clear hs gr hgr
  have h5 := H5.out
  generalize (bitsL M1 64).length = n at *
  have e1 : decide ((n : Int) ≥ 1) = true := decide_eq_true (by omega)
  have e2 : decide ((n : Int) ≤ 4) = true := decide_eq_true (by omega)
  have e3 : decide (n ≥ 1) = true := decide_eq_true (by omega)
  have e4 : decide (n ≤ 4) = true := decide_eq_true (by omega)
  have e5 : decide (1 ≤ n) = true := decide_eq_true (by omega)
  clear h4 H4
  have L3 : (loadVar 43 ⟨gk, 0, none⟩).run Tryd.prog V10 = .ok (.agg kc) V10 := run_blk_load (P := Tryd.prog) 43 (gk) _ N.out Tryd.underlying43 rfl KZ.out
  replace L3 := Lib.hid L3
  go_wp2_with (((with_reducible refine wpList_load_want (op := ⟨some 80, .load 43 (.tmp 9), _, _, _, _⟩) ?wg3 43 (.tmp 9) ?wo3 ⟨gk, 0, none⟩ ?wx3 (.agg kc) L3.out ?_); (case wg3 => rfl); (case wo3 => rfl); (case wx3 => rfl)))
  clear L3
  refine (CH.out gf gF gW 64 L 0 V10 S.out).mono ?_
  rintro e V11 ⟨rfl, hy⟩
  replace K := Lib.hid (K.out.trans (hy.mono K.out.size))
  replace S := Lib.hid (S.out.below hy)
  replace N := Lib.hid (N.out.below hy N.out.lt)
  rw [H1.out]
  clear hy
  go_wp2_with fail
  refine (CC.out gf gF gW 64 L 0 V11 S.out).mono ?_
  rintro e V12 ⟨rfl, hy⟩
  replace K := Lib.hid (K.out.trans (hy.mono K.out.size))
  replace S := Lib.hid (S.out.below hy)
  replace N := Lib.hid (N.out.below hy N.out.lt)
  rw [H5.out]
  clear hy
  have L4 : (loadVar 43 ⟨gk, 0, none⟩).run Tryd.prog V12 = .ok (.agg kc) V12 := run_blk_load (P := Tryd.prog) 43 (gk) _ N.out Tryd.underlying43 rfl KZ.out
  replace L4 := Lib.hid L4
  go_wp2_with (((with_reducible refine wpList_load_want (op := ⟨some 91, .load 43 (.tmp 9), _, _, _, _⟩) ?wg4 43 (.tmp 9) ?wo4 ⟨gk, 0, none⟩ ?wx4 (.agg kc) L4.out ?_); (case wg4 => rfl); (case wo4 => rfl); (case wx4 => rfl)))
  clear L4
  refine (CHN.out V12).mono ?_
  rintro e V13 ⟨rfl, hy⟩
  replace K := Lib.hid (K.out.trans (hy.mono K.out.size))
  replace S := Lib.hid (S.out.below hy)
  replace N := Lib.hid (N.out.below hy N.out.lt)
  clear hy
  go_wp2_with fail
  refine (CCN.out V13).mono ?_
  rintro e V14 ⟨rfl, hy⟩
  replace K := Lib.hid (K.out.trans (hy.mono K.out.size))
  replace S := Lib.hid (S.out.below hy)
  replace N := Lib.hid (N.out.below hy N.out.lt)
  clear hy
  have L5 : (loadVar 43 ⟨gk, 0, none⟩).run Tryd.prog V14 = .ok (.agg kc) V14 := run_blk_load (P := Tryd.prog) 43 (gk) _ N.out Tryd.underlying43 rfl KZ.out
  replace L5 := Lib.hid L5
  go_wp2_with (((with_reducible refine wpList_load_want (op := ⟨some 102, .load 43 (.tmp 9), _, _, _, _⟩) ?wg5 43 (.tmp 9) ?wo5 ⟨gk, 0, none⟩ ?wx5 (.agg kc) L5.out ?_); (case wg5 => rfl); (case wo5 => rfl); (case wx5 => rfl)))
  clear L5
  refine (CIN.out V14).mono ?_
  rintro e V15 ⟨rfl, hy⟩
  replace K := Lib.hid (K.out.trans (hy.mono K.out.size))
  replace S := Lib.hid (S.out.below hy)
  replace N := Lib.hid (N.out.below hy N.out.lt)
  clear hy
  go_wp2
  go_ret
  exact ⟨rfl, K.out⟩
end Go.Proofs.YtcgaibkpdihncaaDoor
