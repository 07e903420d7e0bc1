/- Texts that the walks of this seat lean on, put together. -/
import Derived.StillTailTactics
import Derived.Deep.CutBlock
import Derived.Deep.DeepCutAuto
import Derived.LoopTactic
import Derived.Handy
import Derived.ProofKit
import Derived.OpenShut
import Derived.ChangeSame
import Derived.Lib.LaidTab
import Derived.Deep.DeepHandedRow
import Derived.LaidSub
import Derived.Test.YtcgaibkpdihncaaDoorTk
import Derived.Test.YtcgaibkpdihncaaDoorCards
import Derived.Test.YtcgaibkpdihncaaDoorM21
import Derived.Test.YtcgaibkpdihncaaDoorM32
import Derived.Test.YtcgaibkpdihncaaDoorM43
import Derived.Test.YtcgaibkpdihncaaDoorM44
import Derived.Test.YtcgaibkpdihncaaDoorTie
namespace Go.Proofs.YtcgaibkpdihncaaDoor
open Go.RowKit Go.Lib
theorem k0_no : vK k0 = false := by kernel_rfl
theorem built_k0 : Tryd.prog.built 43 [] = some k0.cs := by kernel_rfl
theorem mem_take_get (l : List Int) (k j : Nat) (h : k ≤ j) (hj : j < l.length) : l.getD k 0 ∈ l.take (j + 1) := by
  rw [List.getD_eq_getElem?_getD, List.getElem?_eq_getElem (by omega), Option.getD_some]
  exact List.mem_take_iff_getElem.2 ⟨k, by omega, rfl⟩
set_option maxRecDepth 100000 in
set_option maxHeartbeats 4000000 in
theorem has_walk (v0 : Value) (zs0 : List Int) (a : Int) (v2 : Value) (zs2 : List Int) (w : World) (hv0 : Rd w v0 (ivs zs0)) (hv2 : Rd w v2 (ivs zs2)) (hE : Env w) : Calls Tryd.prog 4 #[v0, .int .i64 a, v2] w fun e w' => e = .returned (.bool true) ∧ Below w.heap.size w w' := by
  have K := Lib.hid (Below.refl w.heap.size w)
  have EN := Lib.hid hE
  have AW := Lib.hid awake_any
  have hq := eqp_some
  have qE := hE.lt
  have VI0 := Lib.hid hv0
  obtain ⟨va0, vc0, rfl, -, -⟩ := rdI_shape hv0
  obtain ⟨ln0, hln0⟩ : ∃ n, n = zs0.length := ⟨_, rfl⟩
  rw [← hln0] at VI0 ⊢
  have HLN0 := Lib.hid hln0
  have VI2 := Lib.hid hv2
  obtain ⟨va2, vc2, rfl, -, -⟩ := rdI_shape hv2
  obtain ⟨ln2, hln2⟩ : ∃ n, n = zs2.length := ⟨_, rfl⟩
  rw [← hln2] at VI2 ⊢
  have HLN2 := Lib.hid hln2
  by_cases h0 : ln0 > 30
  · have e0a : decide ((ln0 : Int) > 30) = true := decide_eq_true (by omega)
    have e0b : decide (ln0 > 30) = true := decide_eq_true (by omega)
    have e0c : decide (30 < ln0) = true := decide_eq_true (by omega)
    clear hv0 hv2 hE hln0 hln2 VI0 VI2 HLN0 HLN2 h0
    go_enter Tryd.func4, Tryd.ntmps4
    go_wp2_with fail
    refine (AW.out w EN.out).mono ?_
    rintro e V1 ⟨rfl, hy⟩
    replace K := Lib.hid (K.out.trans (hy.mono K.out.size))
    clear hy
    go_wp2
    go_ret
    exact ⟨rfl, K.out⟩
  by_cases h1 : ln2 > 60
  · have e0a : decide ((ln0 : Int) > 30) = false := decide_eq_false (by omega)
    have e0b : decide (ln0 > 30) = false := decide_eq_false (by omega)
    have e0c : decide (30 < ln0) = false := decide_eq_false (by omega)
    have e1a : decide ((ln2 : Int) > 60) = true := decide_eq_true (by omega)
    have e1b : decide (ln2 > 60) = true := decide_eq_true (by omega)
    have e1c : decide (60 < ln2) = true := decide_eq_true (by omega)
    clear hv0 hv2 hE hln0 hln2 VI0 VI2 HLN0 HLN2 h0 h1
    go_enter Tryd.func4, Tryd.ntmps4
    go_wp2_with fail
    refine (AW.out w EN.out).mono ?_
    rintro e V1 ⟨rfl, hy⟩
    replace K := Lib.hid (K.out.trans (hy.mono K.out.size))
    clear hy
    go_wp2
    go_ret
    exact ⟨rfl, K.out⟩
  by_cases h2 : a < 1
  · have e0a : decide ((ln0 : Int) > 30) = false := decide_eq_false (by omega)
    have e0b : decide (ln0 > 30) = false := decide_eq_false (by omega)
    have e0c : decide (30 < ln0) = false := decide_eq_false (by omega)
    have e1a : decide ((ln2 : Int) > 60) = false := decide_eq_false (by omega)
    have e1b : decide (ln2 > 60) = false := decide_eq_false (by omega)
    have e1c : decide (60 < ln2) = false := decide_eq_false (by omega)
    have e2a : decide (a < 1) = true := decide_eq_true (by omega)
    clear hv0 hv2 hE hln0 hln2 VI0 VI2 HLN0 HLN2 h0 h1 h2
    go_enter Tryd.func4, Tryd.ntmps4
    go_wp2_with fail
    refine (AW.out w EN.out).mono ?_
    rintro e V1 ⟨rfl, hy⟩
    replace K := Lib.hid (K.out.trans (hy.mono K.out.size))
    clear hy
    go_wp2
    go_ret
    exact ⟨rfl, K.out⟩
  by_cases h3 : a > 65536
  · have e0a : decide ((ln0 : Int) > 30) = false := decide_eq_false (by omega)
    have e0b : decide (ln0 > 30) = false := decide_eq_false (by omega)
    have e0c : decide (30 < ln0) = false := decide_eq_false (by omega)
    have e1a : decide ((ln2 : Int) > 60) = false := decide_eq_false (by omega)
    have e1b : decide (ln2 > 60) = false := decide_eq_false (by omega)
    have e1c : decide (60 < ln2) = false := decide_eq_false (by omega)
    have e2a : decide (a < 1) = false := decide_eq_false (by omega)
    have e3a : decide (a > 65536) = true := decide_eq_true (by omega)
    have e3b : decide (65536 < a) = true := decide_eq_true (by omega)
    clear hv0 hv2 hE hln0 hln2 VI0 VI2 HLN0 HLN2 h0 h1 h2 h3
    go_enter Tryd.func4, Tryd.ntmps4
    go_wp2_with fail
    refine (AW.out w EN.out).mono ?_
    rintro e V1 ⟨rfl, hy⟩
    replace K := Lib.hid (K.out.trans (hy.mono K.out.size))
    clear hy
    go_wp2
    go_ret
    exact ⟨rfl, K.out⟩
  have e0a : decide ((ln0 : Int) > 30) = false := decide_eq_false (by omega)
  have e0b : decide (ln0 > 30) = false := decide_eq_false (by omega)
  have e0c : decide (30 < ln0) = false := decide_eq_false (by omega)
  have e1a : decide ((ln2 : Int) > 60) = false := decide_eq_false (by omega)
  have e1b : decide (ln2 > 60) = false := decide_eq_false (by omega)
  have e1c : decide (60 < ln2) = false := decide_eq_false (by omega)
  have e2a : decide (a < 1) = false := decide_eq_false (by omega)
  have e3a : decide (a > 65536) = false := decide_eq_false (by omega)
  have e3b : decide (65536 < a) = false := decide_eq_false (by omega)
  obtain ⟨N, rfl⟩ : ∃ N : Nat, a = (N : Int) := ⟨a.toNat, by omega⟩
  have CF := Lib.hid (fun W h => config_any (.slice va0 ln0 vc0) zs0 W h)
  obtain ⟨c, hcr⟩ : ∃ c, c = cfg zs0 := ⟨_, rfl⟩
  have hc : c.Fit := by rw [hcr]; exact cfg_fit zs0
  have hok : okC c = true := by rw [hcr]; exact cfg_ok zs0
  rw [← hcr] at CF
  have CN := Lib.hid (fun W => new_yes c hc hok W)
  have CB := Lib.hid (fun gf W h1 h2 => fs_new c gf N (by omega) (by omega) W h1 h2)
  obtain ⟨f, hf⟩ : ∃ f : Int → Fl, f = fun x => kflow x false false := ⟨_, rfl⟩
  have hff : ∀ x, (f x).Fit := fun x => by rw [hf]; exact kflow_fit _ _ _
  have hfv : ∀ x, vK (f x) = true := fun x => by rw [hf]; exact kflow_vK _ _ _
  have CK : Hid (∀ x W, Calls Tryd.prog 12 #[.int .i64 x, .bool false, .bool false] W fun e w' => e = .returned (.agg (f x).cs) ∧ Below W.heap.size W w') := fun x W => by rw [hf]; exact flow_any x false false W
  have CH := Lib.hid (fun x gf gF gW L M W h => fs_has c hc hok (f x) (hff x) (hfv x) gf gF gW N L M W h)
  have CI := Lib.hid (fun x gf gF gW L M W h => fs_ins c hc hok (f x) (hff x) (hfv x) gf gF gW N L M W h)
  have CC := Lib.hid (fun gf gF gW L M W h => fs_count c gf gF gW N L M W h)
  have CO := Lib.hid (fun gf gF gW L W h => fs_ones c gf gF gW N L 0 (-1) W h)
  rw [cut_alln, bitsL_zero] at CO
  have CL := Lib.hid (fun gf gF gW L M W h => fs_clear c gf gF gW N L M W h)
  have CH0 := Lib.hid (fun gf gF gW L M W h => fs_has0 c k0 k0_fit k0_no gf gF gW N L M W h)
  have CI0 := Lib.hid (fun gf gF gW L M W h => fs_ins0 c k0 k0_fit k0_no gf gF gW N L M W h)
  have B0 := Lib.hid built_k0
  obtain ⟨p, hp⟩ : ∃ p : Int → List Nat, p = fun x => btN c (f x) := ⟨_, rfl⟩
  have hp2 : ∀ x, btN c (f x) = p x := fun x => by rw [hp]
  have hpn : ∀ x, p x ≠ [] := fun x => by rw [hp]; exact btN_ne c hok _ (hfv x)
  obtain ⟨hs, hhs⟩ : ∃ hs : Nat, c.hs = (hs : Int) := ⟨c.hs.toNat, by have := okC_hs hok; omega⟩
  have hsl : hs ≤ 4 := by have := okC_hs hok; omega
  have hpl : ∀ x, (p x).length = hs := fun x => by rw [hp]; show (btN c (f x)).length = hs; rw [btN_len_yes (hfv x), hhs, Int.toNat_natCast]
  have HP0 := Lib.hid (fun x => hasB_zero N (p x) (hpn x))
  obtain ⟨MF, hMF⟩ : ∃ MF : Nat → Nat, MF = fun j => insF c N f (zs2.take j) 0 := ⟨_, rfl⟩
  have HNX := Lib.hid (show ∀ j, j < ln2 → MF (j + 1) = insB N (p (zs2.getD j 0)) (MF j) from fun j hj => by rw [hMF, hp]; exact insF_next c N f zs2 j 0 (by omega))
  have HAL := Lib.hid (show ∀ k j, k ≤ j → j < ln2 → hasB N (p (zs2.getD k 0)) (MF (j + 1)) = true from fun k j h1 h2 => by rw [hMF, hp]; exact insF_has c N f _ 0 _ (mem_take_get zs2 k j h1 (by omega)))
  have HZ : Hid (MF 0 = 0) := by show MF 0 = 0; rw [hMF]; rfl
  simp only [hp2] at CH CI
  obtain ⟨F, hF⟩ : ∃ F : Nat → Nat → Nat, F = fun M n => (bitsL M n).length := ⟨_, rfl⟩
  have hF2 : ∀ M n, (bitsL M n).length = F M n := fun M n => by rw [hF]
  have HFR := Lib.hid (fun l M => len_fresh N l M (by omega))
  have HFI := Lib.hid (fun l M => len_insB N l M (by omega))
  have HFL := Lib.hid (fun M => bitsL_le M N)
  simp only [hF2] at HFR HFI HFL CC
  have HF0 : Hid (F 0 N = 0) := by show F 0 N = 0; rw [hF]; show (bitsL 0 N).length = 0; rw [bitsL_zero]; rfl
  have HPL := Lib.hid hpl
  obtain ⟨ZC, hZC⟩ : ∃ Z, Z = cf0.cs := ⟨_, rfl⟩
  have z27 : Hid (∀ W, (zeroValue 29).run Tryd.prog W = .ok (.agg ZC) W) := by rw [hZC]; exact zero27
  have RY : Hid (c.cs.size = ZC.size) := by show _ = _; rw [hZC, cf_size _ hc, cf_size _ cf0_fit]
  have RZ := Lib.hid (cf_ic _ hc)
  have RA := Lib.hid (cf_all c)
  obtain ⟨-, -, -, -, b4, -, -, -, -, -, -, -, -, -, -, -⟩ := cf_get c hc
  rw [hhs] at b4
  have Q4 := Lib.hid b4
  generalize k0.cs = kz at *
  obtain ⟨fc, hfc⟩ : ∃ fc : Int → Array Value, fc = fun x => (f x).cs := ⟨_, rfl⟩
  have hfc2 : ∀ x, (f x).cs = fc x := fun x => by rw [hfc]
  simp only [hfc2] at CK CH CI
  generalize c.cs = cc at *
  clear hc hok hff hfv hf hcr hv0 hv2 hE hln0 hln2 hp hp2 hpn hhs hpl hMF hF hF2 b4 hfc hfc2 hZC
  clear HLN0
  go_enter Tryd.func4, Tryd.ntmps4
  have z27o := z27.out
  go_wp2_with fail
  refine (CF.out w VI0.out).mono ?_
  rintro e V1 ⟨rfl, hy⟩
  replace K := Lib.hid (K.out.trans (hy.mono K.out.size))
  have qK0 := K.out.size
  clear hy
  go_wp2_with (((with_reducible refine wpList_blk_store (op := ⟨none, .store 29 (.tmp 7) (.tmp 36), _, _, _, _⟩) ?sg1 29 (.tmp 7) (.tmp 36) ?so1 (V1.heap.size) cc ?sx1 ?sy1 (Blk.new V1 29 ZC) RY.out RZ.out RA.out ?_); (case sg1 => rfl); (case so1 => rfl); (case sx1 => rfl); (case sy1 => rfl)))
  intro V2 hA hF hB
  have hy := ((Below.refl V1.heap.size V1).alloc (Nat.le_refl _) (.cells ZC 29)).trans (hB _ (Nat.le_refl _))
  replace K := Lib.hid (K.out.trans (hy.mono K.out.size))
  have C := Lib.hid hA
  clear hA hF hB hy
  clear z27o z27
  generalize V1.heap.size = gC at *
  have L2 : (loadVar 29 ⟨gC, 0, none⟩).run Tryd.prog V2 = .ok (.agg cc) V2 := run_blk_load (P := Tryd.prog) 29 (gC) _ C.out Tryd.underlying29 rfl RZ.out
  replace L2 := Lib.hid L2
  go_wp2_with (((with_reducible refine wpList_load_want (op := ⟨some 38, .load 29 (.tmp 7), _, _, _, _⟩) ?wg2 29 (.tmp 7) ?wo2 ⟨gC, 0, none⟩ ?wx2 (.agg cc) L2.out ?_); (case wg2 => rfl); (case wo2 => rfl); (case wx2 => rfl)))
  clear L2
  refine (CN.out V2).mono ?_
  rintro e V3 ⟨⟨gf, rfl, hgf, hF⟩, hy⟩
  replace K := Lib.hid (K.out.trans (hy.mono K.out.size))
  replace C := Lib.hid (C.out.below hy C.out.lt)
  have F := Lib.hid hF
  clear hF
  have qC1 := C.out.lt
  clear hy
  go_wp2_with fail
  have qK := K.out.size
  refine (CB.out gf V3 F.out (EN.out.below K.out qE)).mono ?_
  rintro e V4 ⟨⟨gF, gW, L, rfl, hS, hgW, hgF⟩, hy⟩
  replace K := Lib.hid (K.out.trans (hy.mono K.out.size))
  replace C := Lib.hid (C.out.below hy C.out.lt)
  replace F := Lib.hid (F.out.below hy F.out.lt)
  have hgW2 : w.heap.size ≤ gW := Nat.le_trans qK hgW
  have hgC : gC < gW := Nat.lt_of_lt_of_le qC1 hgW
  have S := Lib.hid hS
  clear hS hgf hgF F qC1
  clear hy
  go_wp2
  rw [← HZ.out] at S
  go_loopw [12] (fun i wr => ∃ j : Nat, j ≤ ln2 ∧ i = .int .i64 (j : Int) ∧ Hid (Blk wr gC 29 cc) ∧ Hid (FS c gf gF gW N L (MF j) wr) ∧ Hid (Below w.heap.size w wr)) (fun i _ => ln2 - (RowKit.intOf i).toNat)
  case atStart => exact ⟨0, by omega, rfl, C, S, K⟩
  case round =>
    obtain ⟨j, hj, rfl, Cr, Sr, Kr⟩ := hrel
    clear C S K
    by_cases hlt : j < ln2
    · have d8 : decide ((j : Int) < (ln2 : Int)) = true := decide_eq_true (by omega)
      have d9 : decide (j < ln2) = true := decide_eq_true (by omega)
      have hb2 : 0 ≤ (j : Int) ∧ (j : Int) < (ln2 : Int) := by omega
      obtain ⟨bb, off, e, _⟩ := RdI.cells VI2.out (by have := HLN2.out; omega)
      subst e
      have HCE := Lib.hid (fun k (hk : k < ln2) W (h : Below w.heap.size w W) => by obtain ⟨b', o', e', hc⟩ := RdI.cells (VI2.out.below h) (by have := HLN2.out; omega); cases e'; exact hc k (by have := HLN2.out; omega))
      have HNXj := Lib.hid (HNX.out j hlt)
      have HALj := Lib.hid (fun k hk => HAL.out k j hk hlt)
      have HCj := Lib.hid (HCE.out j hlt)
      generalize zs2.getD j 0 = x at *
      have CHx := Lib.hid (fun W h => CH.out x gf gF gW L (MF j) W h)
      have CIx := Lib.hid (fun W h => CI.out x gf gF gW L (MF j) W h)
      rw [← HNXj.out] at CIx
      have CC1 := Lib.hid (fun W h => CC.out gf gF gW L (MF j) W h)
      have CC2 := Lib.hid (fun W h => CC.out gf gF gW L (MF (j + 1)) W h)
      have fr := HFR.out (p x) (MF j)
      have fi := (HFI.out (p x) (MF j)).2
      have fl := HFL.out (MF j)
      have fl2 := HFL.out (MF (j + 1))
      rw [HPL.out] at fi
      rw [← HNXj.out] at fr fi
      obtain ⟨hd, hhd⟩ : ∃ hd, hd = hasB N (p x) (MF j) := ⟨_, rfl⟩
      rw [← hhd] at CHx CIx fr
      generalize F (MF j) N = n1 at *
      generalize F (MF (j + 1)) N = n2 at *
      have w6 : IntKind.i64.wrap ((j : Int) + 1) = ((j + 1 : Nat) : Int) := by rw [IntKind.wrap_i64]; omega
      have w7 : IntKind.i64.wrap ((n1 : Int) + (hs : Int)) = ((n1 + hs : Nat) : Int) := by rw [IntKind.wrap_i64]; omega
      have g1 : decide ((n2 : Int) > (n1 : Int)) = !hd := by rw [← fr, Bool.eq_iff_iff, decide_eq_true_iff, decide_eq_true_iff]; omega
      have g2 : decide (n2 > n1) = !hd := fr
      have g3 : decide (n1 < n2) = !hd := fr
      have g4 : decide ((n2 : Int) > ((n1 + hs : Nat) : Int)) = false := decide_eq_false (by omega)
      have g5 : decide (n2 > n1 + hs) = false := decide_eq_false (by omega)
      have g6 : decide ((n2 : Int) > (n1 : Int) + (hs : Int)) = false := decide_eq_false (by omega)
      have b1 : ((!hd) == hd) = false := by cases hd <;> rfl
      have b2 : ((!hd) != (!hd)) = false := by cases hd <;> rfl
      clear fr fi fl fl2 hhd
      have c0 := HCj.out _ Kr.out
      go_wp2_with fail
      clear c0
      refine (CK.out x wr).mono ?_
      rintro e V6 ⟨rfl, hy⟩
      replace Cr := Lib.hid (Cr.out.below hy Cr.out.lt)
      replace Sr := Lib.hid (Sr.out.below hy)
      replace Kr := Lib.hid (Kr.out.trans (hy.mono Kr.out.size))
      clear hy
      go_wp2_with fail
      refine (CHx.out V6 Sr.out).mono ?_
      rintro e V7 ⟨rfl, hy⟩
      replace Cr := Lib.hid (Cr.out.below hy Cr.out.lt)
      replace Sr := Lib.hid (Sr.out.below hy)
      replace Kr := Lib.hid (Kr.out.trans (hy.mono Kr.out.size))
      clear hy
      go_wp2_with fail
      refine (CC1.out V7 Sr.out).mono ?_
      rintro e V8 ⟨rfl, hy⟩
      replace Cr := Lib.hid (Cr.out.below hy Cr.out.lt)
      replace Sr := Lib.hid (Sr.out.below hy)
      replace Kr := Lib.hid (Kr.out.trans (hy.mono Kr.out.size))
      clear hy
      have c0 := HCj.out _ Kr.out
      go_wp2_with fail
      clear c0
      refine (CK.out x V8).mono ?_
      rintro e V9 ⟨rfl, hy⟩
      replace Cr := Lib.hid (Cr.out.below hy Cr.out.lt)
      replace Sr := Lib.hid (Sr.out.below hy)
      replace Kr := Lib.hid (Kr.out.trans (hy.mono Kr.out.size))
      clear hy
      go_wp2_with fail
      refine (CIx.out V9 Sr.out).mono ?_
      rintro e V10 ⟨rfl, hs2, gr⟩
      replace Kr := Lib.hid (Kr.out.grown gr Kr.out.size (fun k e => by cases e; exact hgW2))
      replace Cr := Lib.hid (show Blk _ _ _ _ from (gr.block _ Cr.out.lt (fun e => by cases e; omega)).trans Cr.out)
      replace Sr := Lib.hid hs2
      clear hs2 gr
      go_wp2_with fail
      refine wp_region_held (S := (fun w' : World => Below (V10.heap.size) V10 w')) (by kernel_rfl) ?_
      change wpAnyH _ _ _ _ _ _ _ _ V10.drew
      have hy : Below V10.heap.size V10 V10.drew := (Below.refl _ _).drew
      have hE0 : Below (V10.heap.size) V10 V10.drew := (Below.refl _ _).drew
      clear hy
      generalize V10.drew = Y13x0 at hE0  ⊢
      have E0 := Lib.hid hE0
      clear hE0
      refine tkA 0 (?_) ?_ E0.out ?_
      rotate_left
      · (intro w1 hS; go_simp; try with_reducible rfl)
      simp only [Act.put, tS1, tS2, tS3]
      refine tkA 1 (?_) ?_ E0.out ?_
      rotate_left
      · (intro w1 hS; go_simp; try with_reducible rfl)
      simp only [Act.put, tS1, tS2, tS3]
      refine tkA 2 (?_) ?_ E0.out ?_
      rotate_left
      · (intro w1 hS; go_simp; try with_reducible rfl)
      simp only [Act.put, tS1, tS2, tS3]
      refine tkA 3 (?_) ?_ E0.out ?_
      rotate_left
      · (intro w1 hS; go_simp; try with_reducible rfl)
      simp only [Act.put, tS1, tS2, tS3]
      refine tkA 4 (?_) ?_ E0.out ?_
      rotate_left
      · (intro w1 hS; go_simp; try with_reducible rfl)
      simp only [Act.put, tS1, tS2, tS3]
      refine tkA 5 (?_) ?_ E0.out ?_
      rotate_left
      · (intro w1 hS; go_simp; try with_reducible rfl)
      simp only [Act.put, tS1, tS2, tS3]
      refine tkA 7 (?_) ?_ E0.out ?_
      rotate_left
      · (intro w1 hS; go_simp; try with_reducible rfl)
      simp only [Act.put, tS1, tS2, tS3]
      refine tkO 6 (fun KK hK => ?_)
      go_simp
      refine (CC2.out Y13x0 (Sr.out.below E0.out)).mono ?_
      rintro e Y13x1 ⟨rfl, hy⟩
      have E1 := Lib.hid (E0.out.trans (hy.mono E0.out.size))
      have C1 := Lib.hid E1.out
      clear hy E0
      refine hK.out _ _ C1.out (fun _ => ?_)
      clear hK KK
      refine wpAnyH_mono (S' := (fun w' : World => Below Y13x1.heap.size Y13x1 w')) (fun w1 h => C1.out.trans (h.mono C1.out.size)) _ _ _ _ ?_
      clear C1
      try simp only [Act.put, tS1, tS2, tS3]
      refine tkA 8 (?_) ?_ (Below.refl _ _) ?_
      rotate_left
      · (intro w1 hS; go_simp; try with_reducible rfl)
      simp only [Act.put, tS1, tS2, tS3]
      refine tkA 9 (?_) ?_ (Below.refl _ _) ?_
      rotate_left
      · (intro w1 hS; go_simp; try with_reducible rfl)
      simp only [Act.put, tS1, tS2, tS3]
      refine tkA 10 (?_) ?_ (Below.refl _ _) ?_
      rotate_left
      · (intro w1 hS; go_simp; try with_reducible rfl)
      simp only [Act.put, tS1, tS2, tS3]
      refine tkA 11 (?_) ?_ (Below.refl _ _) ?_
      rotate_left
      · (intro w1 hS; go_simp; try with_reducible rfl)
      simp only [Act.put, tS1, tS2, tS3]
      refine tkA 12 (?_) ?_ (Below.refl _ _) ?_
      rotate_left
      · (intro w1 hS; go_simp; try with_reducible rfl)
      simp only [Act.put, tS1, tS2, tS3]
      refine tkA 14 (?_) ?_ (Below.refl _ _) ?_
      rotate_left
      · (intro w1 hS; go_simp; try with_reducible rfl)
      simp only [Act.put, tS1, tS2, tS3]
      refine tkA 15 (?_) ?_ (Below.refl _ _) ?_
      rotate_left
      · (intro w1 hS; go_simp; try with_reducible rfl)
      simp only [Act.put, tS1, tS2, tS3]
      refine tkA 16 (?_) ?_ (Below.refl _ _) ?_
      rotate_left
      · (intro w1 hS; have hW := E1.out.trans (hS.mono E1.out.size); have q := ((Cr.out.below hW Cr.out.lt).cell 4).trans Q4.out; clear hW hS; go_simp; try with_reducible rfl)
      simp only [Act.put, tS1, tS2, tS3]
      refine tkA 17 (?_) ?_ (Below.refl _ _) ?_
      rotate_left
      · (intro w1 hS; go_simp; try with_reducible rfl)
      simp only [Act.put, tS1, tS2, tS3]
      refine tkO 13 (fun KK hK => ?_)
      go_simp
      have Sr3 := Lib.hid (Sr.out.below E1.out)
      refine (CC2.out Y13x1 Sr3.out).mono ?_
      rintro e Y13x2 ⟨rfl, hy⟩
      have E2 := Lib.hid (E1.out.trans (hy.mono E1.out.size))
      have C2 := Lib.hid hy
      clear Sr3
      clear hy E1
      refine hK.out _ _ C2.out (fun _ => ?_)
      clear hK KK
      refine wpAnyH_mono (S' := (fun w' : World => Below Y13x2.heap.size Y13x2 w')) (fun w1 h => C2.out.trans (h.mono C2.out.size)) _ _ _ _ ?_
      clear C2
      try simp only [Act.put, tS1, tS2, tS3]
      refine tkA 18 (?_) ?_ (Below.refl _ _) ?_
      rotate_left
      · (intro w1 hS; go_simp; try with_reducible rfl)
      simp only [Act.put, tS1, tS2, tS3]
      refine tkA 19 (?_) ?_ (Below.refl _ _) ?_
      rotate_left
      · (intro w1 hS; go_simp; try with_reducible rfl)
      simp only [Act.put, tS1, tS2, tS3]
      refine wpAnyH_done (by kernel_rfl) ?_ _
      have hy := E2.out
      replace Cr := Lib.hid (Cr.out.below hy Cr.out.lt)
      replace Sr := Lib.hid (Sr.out.below hy)
      replace Kr := Lib.hid (Kr.out.trans (hy.mono Kr.out.size))
      clear hy E2
      clear g1 g2 g3 g4 g5 g6 b1 b2 w7 CHx CIx CC1 CC2 HCj HNXj
      go_wp2
      go_loopw [16] (fun i wq => ∃ k : Nat, k ≤ j + 1 ∧ i = .int .i64 (k : Int) ∧ Hid (Blk wq gC 29 cc) ∧ Hid (FS c gf gF gW N L (MF (j + 1)) wq) ∧ Hid (Below w.heap.size w wq)) (fun i _ => j + 1 - (RowKit.intOf i).toNat)
      case atStart => exact ⟨0, by omega, rfl, Cr, Sr, Kr⟩
      case round =>
        obtain ⟨k, hk, rfl, Cq, Sq, Kq⟩ := hrel
        clear Cr Sr Kr
        by_cases hkj : k ≤ j
        · have f8 : decide ((k : Int) ≤ (j : Int)) = true := decide_eq_true (by omega)
          have f9 : decide (k ≤ j) = true := decide_eq_true (by omega)
          have hb3 : 0 ≤ (k : Int) ∧ (k : Int) < (ln2 : Int) := by omega
          have HCk := Lib.hid (HCE.out k (by omega))
          have CHk := Lib.hid (fun W h => CH.out (zs2.getD k 0) gf gF gW L (MF (j + 1)) W h)
          rw [HALj.out k hkj] at CHk
          generalize zs2.getD k 0 = y at *
          have w8 : IntKind.i64.wrap ((k : Int) + 1) = ((k + 1 : Nat) : Int) := by rw [IntKind.wrap_i64]; omega
          have c1 := HCk.out _ Kq.out
          go_wp2_with fail
          clear c1
          refine (CK.out y wr).mono ?_
          rintro e V12 ⟨rfl, hy⟩
          replace Cq := Lib.hid (Cq.out.below hy Cq.out.lt)
          replace Sq := Lib.hid (Sq.out.below hy)
          replace Kq := Lib.hid (Kq.out.trans (hy.mono Kq.out.size))
          clear hy
          go_wp2_with fail
          refine (CHk.out V12 Sq.out).mono ?_
          rintro e V13 ⟨rfl, hy⟩
          replace Cq := Lib.hid (Cq.out.below hy Cq.out.lt)
          replace Sq := Lib.hid (Sq.out.below hy)
          replace Kq := Lib.hid (Kq.out.trans (hy.mono Kq.out.size))
          clear hy
          go_wp2
          go_roundw
          case rel => exact ⟨k + 1, by omega, by go_num, Cq, Sq, Kq⟩
          case measure => simp [RowKit.intOf]; omega
        · obtain rfl : k = j + 1 := by omega
          have f8 : decide (((j + 1 : Nat) : Int) ≤ (j : Int)) = false := decide_eq_false (by omega)
          have f9 : decide (j + 1 ≤ j) = false := decide_eq_false (by omega)
          have f7 : decide ((j : Int) + 1 ≤ (j : Int)) = false := decide_eq_false (by omega)
          go_wp2
          go_roundw
          case rel => exact ⟨j + 1, Nat.succ_le_of_lt hlt, by go_num, Cq, Sq, Kq⟩
          case measure => simp [RowKit.intOf]; omega
    · obtain rfl : j = ln2 := by omega
      have d8 : decide (((j : Nat) : Int) < (j : Int)) = false := decide_eq_false (by omega)
      have d9 : decide (j < j) = false := decide_eq_false (by omega)
      go_wp2_with (((with_reducible refine wpList_built2 (op := ⟨some 110, .build 43 #[], _, _, _, _⟩) ?wg110 43 #[] ?wo110 #[] ?wv110 kz ?wf110 ?_); (case wg110 => rfl); (case wo110 => rfl); (case wv110 => kernel_rfl); (case wf110 => exact B0.out)))
      refine (CI0.out gf gF gW L (MF j) wr Sr.out).mono ?_
      rintro e V61 ⟨rfl, hy⟩
      replace Cr := Lib.hid (Cr.out.below hy Cr.out.lt)
      replace Sr := Lib.hid (Sr.out.below hy)
      replace Kr := Lib.hid (Kr.out.trans (hy.mono Kr.out.size))
      clear hy
      go_wp2_with (((with_reducible refine wpList_built2 (op := ⟨some 114, .build 43 #[], _, _, _, _⟩) ?wg114 43 #[] ?wo114 #[] ?wv114 kz ?wf114 ?_); (case wg114 => rfl); (case wo114 => rfl); (case wv114 => kernel_rfl); (case wf114 => exact B0.out)))
      refine (CH0.out gf gF gW L (MF j) V61 Sr.out).mono ?_
      rintro e V62 ⟨rfl, hy⟩
      replace Cr := Lib.hid (Cr.out.below hy Cr.out.lt)
      replace Sr := Lib.hid (Sr.out.below hy)
      replace Kr := Lib.hid (Kr.out.trans (hy.mono Kr.out.size))
      clear hy
      go_wp2_with fail
      refine (CL.out gf gF gW L (MF j) V62 Sr.out).mono ?_
      rintro e V63 ⟨⟨v, rfl⟩, hs2, gr⟩
      replace Kr := Lib.hid (Kr.out.grown gr Kr.out.size (fun k e => by cases e; exact hgW2))
      replace Cr := Lib.hid (show Blk _ _ _ _ from (gr.block _ Cr.out.lt (fun e => by cases e; omega)).trans Cr.out)
      replace Sr := Lib.hid hs2
      clear hs2 gr
      go_wp2
      go_loopw [17] (fun i wq => ∃ k : Nat, k ≤ j ∧ i = .int .i64 (k : Int) ∧ Hid (FS c gf gF gW N L 0 wq) ∧ Hid (Below w.heap.size w wq)) (fun i _ => j - (RowKit.intOf i).toNat)
      case atStart => exact ⟨0, by omega, rfl, Sr, Kr⟩
      case round =>
        obtain ⟨k, hk, rfl, Sq, Kq⟩ := hrel
        clear Cr Sr Kr
        by_cases hkj : k < j
        · have f8 : decide ((k : Int) < (j : Int)) = true := decide_eq_true (by omega)
          have f9 : decide (k < j) = true := decide_eq_true (by omega)
          have hb3 : 0 ≤ (k : Int) ∧ (k : Int) < (j : Int) := by omega
          obtain ⟨bb, off, e, _⟩ := RdI.cells VI2.out (by have := HLN2.out; omega)
          subst e
          have HCk := Lib.hid (fun W (h : Below w.heap.size w W) => by obtain ⟨b', o', e', hc⟩ := RdI.cells (VI2.out.below h) (by have := HLN2.out; omega); cases e'; exact hc k (by have := HLN2.out; omega))
          have CHk := Lib.hid (fun W h => CH.out (zs2.getD k 0) gf gF gW L 0 W h)
          rw [HP0.out] at CHk
          generalize zs2.getD k 0 = y at *
          have w8 : IntKind.i64.wrap ((k : Int) + 1) = ((k + 1 : Nat) : Int) := by rw [IntKind.wrap_i64]; omega
          have c1 := HCk.out _ Kq.out
          go_wp2_with fail
          clear c1
          refine (CK.out y wr).mono ?_
          rintro e V65 ⟨rfl, hy⟩
          replace Sq := Lib.hid (Sq.out.below hy)
          replace Kq := Lib.hid (Kq.out.trans (hy.mono Kq.out.size))
          clear hy
          go_wp2_with fail
          refine (CHk.out V65 Sq.out).mono ?_
          rintro e V66 ⟨rfl, hy⟩
          replace Sq := Lib.hid (Sq.out.below hy)
          replace Kq := Lib.hid (Kq.out.trans (hy.mono Kq.out.size))
          clear hy
          go_wp2
          go_roundw
          case rel => exact ⟨k + 1, by omega, by go_num, Sq, Kq⟩
          case measure => simp [RowKit.intOf]; omega
        · obtain rfl : k = j := by omega
          have f8 : decide (((k : Nat) : Int) < (k : Int)) = false := decide_eq_false (by omega)
          have f9 : decide (k < k) = false := decide_eq_false (by omega)
          have hf0 := HF0.out
          go_wp2_with fail
          refine (CC.out gf gF gW L 0 wr Sq.out).mono ?_
          rintro e V104 ⟨rfl, hy⟩
          replace Sq := Lib.hid (Sq.out.below hy)
          replace Kq := Lib.hid (Kq.out.trans (hy.mono Kq.out.size))
          rw [hf0]
          clear hy
          go_wp2_with fail
          refine (CO.out gf gF gW L V104 Sq.out).mono ?_
          rintro e V105 ⟨x, rfl, hx, hy⟩
          replace Sq := Lib.hid (Sq.out.below hy)
          replace Kq := Lib.hid (Kq.out.trans (hy.mono Kq.out.size))
          obtain ⟨xa, xc, rfl⟩ := row_shape hx
          clear hx
          clear hy
          go_wp2_with fail
          refine (AW.out V105 (EN.out.below Kq.out qE)).mono ?_
          rintro e V106 ⟨rfl, hy⟩
          replace Sq := Lib.hid (Sq.out.below hy)
          replace Kq := Lib.hid (Kq.out.trans (hy.mono Kq.out.size))
          clear hy
          go_wp2
          go_ret
          exact ⟨rfl, Kq.out⟩
end Go.Proofs.YtcgaibkpdihncaaDoor
namespace Go.Proofs.YtcgaibkpdihncaaDoor
open Go.RowKit
theorem row_rdI {w : World} {a : Option Addr} {len cap : Nat} {zs : List Int}
    (h : (a = none ∧ len = 0 ∧ cap = 0 ∧ zs = []) ∨ ∃ x, a = some x ∧ len ≤ cap ∧ cap ≤ maxLen ∧ zs.length = cap ∧ (∀ i, i < zs.length → w.cell? (x.add i) = some (.int .i64 (zs.getD i 0))) ∧ ∀ n ∈ zs, (Lit.int .i64 n).wf = true) :
    Rd w (.slice a len cap) (ivs (zs.take len)) := by
  rcases h with ⟨rfl, rfl, rfl, rfl⟩ | ⟨x, rfl, hl, hm, hz, hc, -⟩
  · exact ⟨none, 0, rfl, by simp [ivs], by simp [maxLen], .inl rfl⟩
  · have hlen : (ivs (zs.take len)).length = len := by simp [ivs]; omega
    refine ⟨some x, cap, by rw [hlen], by rw [hlen]; exact hl, hm, ?_⟩
    by_cases h0 : len = 0
    · exact .inl (by subst h0; simp [ivs])
    · obtain ⟨b, off, spot⟩ := x
      have h00 := hc 0 (by omega)
      have hspot : spot = none := by simpa [Addr.add] using World.cell?_spot h00
      subst hspot
      refine .inr ⟨b, off, rfl, ?_, fun i hi => ?_⟩
      · have := World.block_lt_of_cell? w _ h00
        simpa [Addr.add] using this
      · rw [hlen] at hi
        have h1 := hc i (by omega)
        have hadd : (⟨b, off, none⟩ : Addr).add i = ⟨b, off + i, none⟩ := by unfold Addr.add; split <;> simp_all
        rw [hadd] at h1
        rw [h1]
        simp [ivs, List.getD_eq_getElem?_getD, hi, List.getElem?_eq_getElem (show i < zs.length by omega)]
end Go.Proofs.YtcgaibkpdihncaaDoor
namespace Go.Proofs.YtcgaibkpdihncaaDoor
open Go.ChangeShapes Go.WideShapes Go.ChangeAt Go.RowKit
theorem own : ownKnob Tryd.prog.godebug = none := by kernel_rfl
theorem gTzType : (Tryd.prog.globals[0]?).map (·.type) = some 100 := by kernel_rfl
theorem env_of {W : World} (h : laidMet Tryd.prog [("math/bits.deBruijn64tab", Rows.laid_math_bits_deBruijn64tab)] W) : Env W := by
  have ht : laidMet Tryd.prog [("math/bits.deBruijn64tab", Lib.tabData .u8 tzI)] W := h
  exact Lib.tabIs_of_head (rest := []) gTz gTzType Tryd.underlying100 Tryd.underlying5 (by kernel_rfl) (by kernel_rfl) ht
end Go.Proofs.YtcgaibkpdihncaaDoor
