/- Texts that the walks of this seat lean on, put together. -/
import Derived.StillTailTactics
import Derived.Deep.CutBlock
import Derived.Deep.DeepCutAuto
import Derived.LoopTactic
import Derived.Handy
import Derived.Test.YtcgaibkpdihncaaDoorTk
import Derived.Test.YtcgaibkpdihncaaDoorM32
import Derived.Test.YtcgaibkpdihncaaDoorM42
import Derived.Test.YtcgaibkpdihncaaDoorM44
import Derived.Test.YtcgaibkpdihncaaDoorM45
namespace Go.Proofs.YtcgaibkpdihncaaDoor
open Go.RowKit Go.Lib
theorem cells48 (c : Array Value) (h : c.size = 48) : ∃ x0 x1 x2 x3 x4 x5 x6 x7 x8 x9 x10 x11 x12 x13 x14 x15 x16 x17 x18 x19 x20 x21 x22 x23 x24 x25 x26 x27 x28 x29 x30 x31 x32 x33 x34 x35 x36 x37 x38 x39 x40 x41 x42 x43 x44 x45 x46 x47, c = #[x0, x1, x2, x3, x4, x5, x6, x7, x8, x9, x10, x11, x12, x13, x14, x15, x16, x17, x18, x19, x20, x21, x22, x23, x24, x25, x26, x27, x28, x29, x30, x31, x32, x33, x34, x35, x36, x37, x38, x39, x40, x41, x42, x43, x44, x45, x46, x47] := by
  obtain ⟨l⟩ := c
  match l, h with
  | x0 :: x1 :: x2 :: x3 :: x4 :: x5 :: x6 :: x7 :: x8 :: x9 :: x10 :: x11 :: x12 :: x13 :: x14 :: x15 :: x16 :: x17 :: x18 :: x19 :: x20 :: x21 :: x22 :: x23 :: x24 :: x25 :: x26 :: x27 :: x28 :: x29 :: x30 :: x31 :: x32 :: x33 :: x34 :: x35 :: x36 :: x37 :: x38 :: x39 :: x40 :: x41 :: x42 :: x43 :: x44 :: x45 :: x46 :: x47 :: [], _ => exact ⟨x0, x1, x2, x3, x4, x5, x6, x7, x8, x9, x10, x11, x12, x13, x14, x15, x16, x17, x18, x19, x20, x21, x22, x23, x24, x25, x26, x27, x28, x29, x30, x31, x32, x33, x34, x35, x36, x37, x38, x39, x40, x41, x42, x43, x44, x45, x46, x47, rfl⟩
set_option maxRecDepth 100000 in
theorem built_r (cs : Array Value) (h : cs.size = 48) (N : Nat) : Tryd.prog.built 40 [(0, .agg cs), (1, .int .i64 (N : Int))] = some (rft cs N (.slice none 0 0)) := by
  obtain ⟨x0, x1, x2, x3, x4, x5, x6, x7, x8, x9, x10, x11, x12, x13, x14, x15, x16, x17, x18, x19, x20, x21, x22, x23, x24, x25, x26, x27, x28, x29, x30, x31, x32, x33, x34, x35, x36, x37, x38, x39, x40, x41, x42, x43, x44, x45, x46, x47, rfl⟩ := cells48 cs h
  kernel_rfl
theorem rs_nil {c : Cf} (hc : c.Fit) {gR N M base : Nat} {W : World} (h : RS c gR N M base W) : RS c gR N 0 base (W.setCell ⟨gR, 49, none⟩ (.slice none 0 0)) := by
  obtain ⟨v, q1, q2⟩ := h.R
  refine ⟨⟨.slice none 0 0, ?_, ?_⟩, h.n0, h.n1, h.d1, Nat.le_trans h.d2 (gb_set (gb_of (Below.refl _ W) gR) 49 (.slice none 0 0)).size⟩
  · have := q1.set_ 49 (.slice none 0 0)
    rwa [rft_set c.cs (cf_size c hc)] at this
  · rw [bitsL_zero]; exact World.ownsRow_nil _ _ _ _
theorem fs_set {c : Cf} {gf gF gW N L M g : Nat} {W : World} (h : FS c gf gF gW N L M W) (v : Value) (h1 : g ≠ gf) (h2 : g ≠ gF) (h3 : g ≠ gW) (h4 : 0 < g) : FS c gf gF gW N L M (W.setCell ⟨g, 49, none⟩ v) :=
  h.grown (gb_set (gb_of (Below.refl _ W) g) 49 v) h1 h2 h3 h4
theorem cut_half (l : List Nat) : cutN l ((l.length / 2 : Nat) : Int) = l.take (l.length / 2) := by
  unfold cutN
  rw [if_pos (by omega), Int.toNat_natCast]
set_option maxRecDepth 100000 in
set_option maxHeartbeats 4000000 in
theorem tells_walk (v0 : Value) (zs0 : List Int) (a : Int) (v2 : Value) (zs2 : List Int) (v3 : Value) (zs3 : List Int) (cl : Int) (w : World) (hv0 : Rd w v0 (ivs zs0)) (hv2 : Rd w v2 (ivs zs2)) (hv3 : Rd w v3 (ivs zs3)) (hE : Env w) : Calls Tryd.prog 3 #[v0, .int .i64 a, v2, v3, .int .i64 cl] w fun e w' => e = .returned (.bool true) ∧ Below w.heap.size w w' := by
  have K := Lib.hid (Below.refl w.heap.size w)
  have EN := Lib.hid hE
  have AW := Lib.hid awake_any
  have hq := eqp_some
  have hqn := eqp_nil
  have qE := hE.lt
  have VI0 := Lib.hid hv0
  obtain ⟨va0, vc0, rfl, -, -⟩ := rdI_shape hv0
  obtain ⟨ln0, hln0⟩ : ∃ n, n = zs0.length := ⟨_, rfl⟩
  rw [← hln0] at VI0 ⊢
  have HLN0 := Lib.hid hln0
  have VI2 := Lib.hid hv2
  obtain ⟨va2, vc2, rfl, -, -⟩ := rdI_shape hv2
  obtain ⟨ln2, hln2⟩ : ∃ n, n = zs2.length := ⟨_, rfl⟩
  rw [← hln2] at VI2 ⊢
  have HLN2 := Lib.hid hln2
  have VI3 := Lib.hid hv3
  obtain ⟨va3, vc3, rfl, -, -⟩ := rdI_shape hv3
  obtain ⟨ln3, hln3⟩ : ∃ n, n = zs3.length := ⟨_, rfl⟩
  rw [← hln3] at VI3 ⊢
  have HLN3 := Lib.hid hln3
  by_cases h0 : ln0 > 30
  · have e0a : decide ((ln0 : Int) > 30) = true := decide_eq_true (by omega)
    have e0b : decide (ln0 > 30) = true := decide_eq_true (by omega)
    have e0c : decide (30 < ln0) = true := decide_eq_true (by omega)
    clear hv0 hv2 hv3 hE hln0 hln2 hln3 VI0 VI2 VI3 HLN0 HLN2 HLN3 h0
    go_enter Tryd.func3, Tryd.ntmps3
    go_wp2_with fail
    refine (AW.out w EN.out).mono ?_
    rintro e V1 ⟨rfl, hy⟩
    replace K := Lib.hid (K.out.trans (hy.mono K.out.size))
    clear hy
    go_wp2
    go_ret
    exact ⟨rfl, K.out⟩
  by_cases h1 : ln2 > 40
  · have e0a : decide ((ln0 : Int) > 30) = false := decide_eq_false (by omega)
    have e0b : decide (ln0 > 30) = false := decide_eq_false (by omega)
    have e0c : decide (30 < ln0) = false := decide_eq_false (by omega)
    have e1a : decide ((ln2 : Int) > 40) = true := decide_eq_true (by omega)
    have e1b : decide (ln2 > 40) = true := decide_eq_true (by omega)
    have e1c : decide (40 < ln2) = true := decide_eq_true (by omega)
    clear hv0 hv2 hv3 hE hln0 hln2 hln3 VI0 VI2 VI3 HLN0 HLN2 HLN3 h0 h1
    go_enter Tryd.func3, Tryd.ntmps3
    go_wp2_with fail
    refine (AW.out w EN.out).mono ?_
    rintro e V1 ⟨rfl, hy⟩
    replace K := Lib.hid (K.out.trans (hy.mono K.out.size))
    clear hy
    go_wp2
    go_ret
    exact ⟨rfl, K.out⟩
  by_cases h2 : ln3 > 40
  · have e0a : decide ((ln0 : Int) > 30) = false := decide_eq_false (by omega)
    have e0b : decide (ln0 > 30) = false := decide_eq_false (by omega)
    have e0c : decide (30 < ln0) = false := decide_eq_false (by omega)
    have e1a : decide ((ln2 : Int) > 40) = false := decide_eq_false (by omega)
    have e1b : decide (ln2 > 40) = false := decide_eq_false (by omega)
    have e1c : decide (40 < ln2) = false := decide_eq_false (by omega)
    have e2a : decide ((ln3 : Int) > 40) = true := decide_eq_true (by omega)
    have e2b : decide (ln3 > 40) = true := decide_eq_true (by omega)
    have e2c : decide (40 < ln3) = true := decide_eq_true (by omega)
    clear hv0 hv2 hv3 hE hln0 hln2 hln3 VI0 VI2 VI3 HLN0 HLN2 HLN3 h0 h1 h2
    go_enter Tryd.func3, Tryd.ntmps3
    go_wp2_with fail
    refine (AW.out w EN.out).mono ?_
    rintro e V1 ⟨rfl, hy⟩
    replace K := Lib.hid (K.out.trans (hy.mono K.out.size))
    clear hy
    go_wp2
    go_ret
    exact ⟨rfl, K.out⟩
  have e0a : decide ((ln0 : Int) > 30) = false := decide_eq_false (by omega)
  have e0b : decide (ln0 > 30) = false := decide_eq_false (by omega)
  have e0c : decide (30 < ln0) = false := decide_eq_false (by omega)
  have e1a : decide ((ln2 : Int) > 40) = false := decide_eq_false (by omega)
  have e1b : decide (ln2 > 40) = false := decide_eq_false (by omega)
  have e1c : decide (40 < ln2) = false := decide_eq_false (by omega)
  have e2a : decide ((ln3 : Int) > 40) = false := decide_eq_false (by omega)
  have e2b : decide (ln3 > 40) = false := decide_eq_false (by omega)
  have e2c : decide (40 < ln3) = false := decide_eq_false (by omega)
  have CF := Lib.hid (fun W h => config_any (.slice va0 ln0 vc0) zs0 W h)
  obtain ⟨c, hcr⟩ : ∃ c, c = cfg zs0 := ⟨_, rfl⟩
  have hc : c.Fit := by rw [hcr]; exact cfg_fit zs0
  have hok : okC c = true := by rw [hcr]; exact cfg_ok zs0
  rw [← hcr] at CF
  have CN := Lib.hid (fun W => new_yes c hc hok W)
  obtain ⟨ZC, hZC⟩ : ∃ Z, Z = cf0.cs := ⟨_, rfl⟩
  have z27 : Hid (∀ W, (zeroValue 29).run Tryd.prog W = .ok (.agg ZC) W) := by rw [hZC]; exact zero27
  have RY : Hid (c.cs.size = ZC.size) := by show _ = _; rw [hZC, cf_size _ hc, cf_size _ cf0_fit]
  have RZ := Lib.hid (cf_ic _ hc)
  have RA := Lib.hid (cf_all c)
  clear hZC hcr
  by_cases g0 : a < 1
  · have CB := Lib.hid (fun g W => bnew_no a g (by omega) W)
    have e7a : decide (a < 1) = true := decide_eq_true (by omega)
    generalize c.cs = cc at *
    clear hc hok hv0 hv2 hv3 hE hln0 hln2 hln3 HLN0 HLN2 HLN3 g0
    go_enter Tryd.func3, Tryd.ntmps3
    have z27o := z27.out
    go_wp2_with fail
    refine (CF.out w VI0.out).mono ?_
    rintro e V21 ⟨rfl, hy⟩
    replace K := Lib.hid (K.out.trans (hy.mono K.out.size))
    have qK0 := K.out.size
    clear hy
    go_wp2_with (((with_reducible refine wpList_blk_store (op := ⟨none, .store 29 (.tmp 11) (.tmp 37), _, _, _, _⟩) ?sg1 29 (.tmp 11) (.tmp 37) ?so1 (V21.heap.size) cc ?sx1 ?sy1 (Blk.new V21 29 ZC) RY.out RZ.out RA.out ?_); (case sg1 => rfl); (case so1 => rfl); (case sx1 => rfl); (case sy1 => rfl)))
    intro V22 hA hF hB
    have hy := ((Below.refl V21.heap.size V21).alloc (Nat.le_refl _) (.cells ZC 29)).trans (hB _ (Nat.le_refl _))
    replace K := Lib.hid (K.out.trans (hy.mono K.out.size))
    have C := Lib.hid hA
    clear hA hF hB hy
    clear z27o z27
    generalize V21.heap.size = gC at *
    have L2 : (loadVar 29 ⟨gC, 0, none⟩).run Tryd.prog V22 = .ok (.agg cc) V22 := run_blk_load (P := Tryd.prog) 29 (gC) _ C.out Tryd.underlying29 rfl RZ.out
    replace L2 := Lib.hid L2
    go_wp2_with (((with_reducible refine wpList_load_want (op := ⟨some 39, .load 29 (.tmp 11), _, _, _, _⟩) ?wg2 29 (.tmp 11) ?wo2 ⟨gC, 0, none⟩ ?wx2 (.agg cc) L2.out ?_); (case wg2 => rfl); (case wo2 => rfl); (case wx2 => rfl)))
    clear L2
    refine (CN.out V22).mono ?_
    rintro e V23 ⟨⟨gf, rfl, hgf, hF⟩, hy⟩
    replace K := Lib.hid (K.out.trans (hy.mono K.out.size))
    replace C := Lib.hid (C.out.below hy C.out.lt)
    have F := Lib.hid hF
    clear hF
    clear hy
    go_wp2_with fail
    refine (CB.out gf V23).mono ?_
    rintro e V24 ⟨rfl, hy⟩
    replace K := Lib.hid (K.out.trans (hy.mono K.out.size))
    replace C := Lib.hid (C.out.below hy C.out.lt)
    replace F := Lib.hid (F.out.below hy F.out.lt)
    clear hy
    go_wp2_with fail
    refine (AW.out V24 (EN.out.below K.out qE)).mono ?_
    rintro e V25 ⟨rfl, hy⟩
    replace K := Lib.hid (K.out.trans (hy.mono K.out.size))
    replace C := Lib.hid (C.out.below hy C.out.lt)
    replace F := Lib.hid (F.out.below hy F.out.lt)
    clear hy
    go_wp2
    go_ret
    exact ⟨rfl, K.out⟩
  by_cases g1 : a > 65536
  · have CB := Lib.hid (fun g W => bnew_no a g (by omega) W)
    have e7a : decide (a < 1) = false := decide_eq_false (by omega)
    have e8a : decide (a > 65536) = true := decide_eq_true (by omega)
    have e8b : decide (65536 < a) = true := decide_eq_true (by omega)
    generalize c.cs = cc at *
    clear hc hok hv0 hv2 hv3 hE hln0 hln2 hln3 HLN0 HLN2 HLN3 g0 g1
    go_enter Tryd.func3, Tryd.ntmps3
    have z27o := z27.out
    go_wp2_with fail
    refine (CF.out w VI0.out).mono ?_
    rintro e V21 ⟨rfl, hy⟩
    replace K := Lib.hid (K.out.trans (hy.mono K.out.size))
    have qK0 := K.out.size
    clear hy
    go_wp2_with (((with_reducible refine wpList_blk_store (op := ⟨none, .store 29 (.tmp 11) (.tmp 37), _, _, _, _⟩) ?sg3 29 (.tmp 11) (.tmp 37) ?so3 (V21.heap.size) cc ?sx3 ?sy3 (Blk.new V21 29 ZC) RY.out RZ.out RA.out ?_); (case sg3 => rfl); (case so3 => rfl); (case sx3 => rfl); (case sy3 => rfl)))
    intro V22 hA hF hB
    have hy := ((Below.refl V21.heap.size V21).alloc (Nat.le_refl _) (.cells ZC 29)).trans (hB _ (Nat.le_refl _))
    replace K := Lib.hid (K.out.trans (hy.mono K.out.size))
    have C := Lib.hid hA
    clear hA hF hB hy
    clear z27o z27
    generalize V21.heap.size = gC at *
    have L4 : (loadVar 29 ⟨gC, 0, none⟩).run Tryd.prog V22 = .ok (.agg cc) V22 := run_blk_load (P := Tryd.prog) 29 (gC) _ C.out Tryd.underlying29 rfl RZ.out
    replace L4 := Lib.hid L4
    go_wp2_with (((with_reducible refine wpList_load_want (op := ⟨some 39, .load 29 (.tmp 11), _, _, _, _⟩) ?wg4 29 (.tmp 11) ?wo4 ⟨gC, 0, none⟩ ?wx4 (.agg cc) L4.out ?_); (case wg4 => rfl); (case wo4 => rfl); (case wx4 => rfl)))
    clear L4
    refine (CN.out V22).mono ?_
    rintro e V23 ⟨⟨gf, rfl, hgf, hF⟩, hy⟩
    replace K := Lib.hid (K.out.trans (hy.mono K.out.size))
    replace C := Lib.hid (C.out.below hy C.out.lt)
    have F := Lib.hid hF
    clear hF
    clear hy
    go_wp2_with fail
    refine (CB.out gf V23).mono ?_
    rintro e V24 ⟨rfl, hy⟩
    replace K := Lib.hid (K.out.trans (hy.mono K.out.size))
    replace C := Lib.hid (C.out.below hy C.out.lt)
    replace F := Lib.hid (F.out.below hy F.out.lt)
    clear hy
    go_wp2_with fail
    refine (AW.out V24 (EN.out.below K.out qE)).mono ?_
    rintro e V25 ⟨rfl, hy⟩
    replace K := Lib.hid (K.out.trans (hy.mono K.out.size))
    replace C := Lib.hid (C.out.below hy C.out.lt)
    replace F := Lib.hid (F.out.below hy F.out.lt)
    clear hy
    go_wp2
    go_ret
    exact ⟨rfl, K.out⟩
  have e7a : decide (a < 1) = false := decide_eq_false (by omega)
  have e8a : decide (a > 65536) = false := decide_eq_false (by omega)
  have e8b : decide (65536 < a) = false := decide_eq_false (by omega)
  obtain ⟨N, rfl⟩ : ∃ N : Nat, a = (N : Int) := ⟨a.toNat, by omega⟩
  have CB := Lib.hid (fun gf W h1 h2 => fs_new c gf N (by omega) (by omega) W h1 h2)
  obtain ⟨f, hf⟩ : ∃ f : Int → Bool → Bool → Fl, f = fun x b1 b2 => kflow x b1 b2 := ⟨_, rfl⟩
  have hff : ∀ x b1 b2, (f x b1 b2).Fit := fun x b1 b2 => by rw [hf]; exact kflow_fit _ _ _
  have hfv : ∀ x b1 b2, vK (f x b1 b2) = true := fun x b1 b2 => by rw [hf]; exact kflow_vK _ _ _
  have CK : Hid (∀ x b1 b2 W, Calls Tryd.prog 12 #[.int .i64 x, .bool b1, .bool b2] W fun e w' => e = .returned (.agg (f x b1 b2).cs) ∧ Below W.heap.size W w') := fun x b1 b2 W => by rw [hf]; exact flow_any x b1 b2 W
  have CI := Lib.hid (fun x b1 b2 gf gF gW L M W h => fs_ins c hc hok (f x b1 b2) (hff x b1 b2) (hfv x b1 b2) gf gF gW N L M W h)
  have CH := Lib.hid (fun x b1 b2 gf gF gW L M W h => fs_has c hc hok (f x b1 b2) (hff x b1 b2) (hfv x b1 b2) gf gF gW N L M W h)
  have RI := Lib.hid (fun x b1 b2 gR M base W h => rs_ins c hc hok (f x b1 b2) (hff x b1 b2) (hfv x b1 b2) gR N M base W h)
  have RH := Lib.hid (fun x b1 b2 gR M base W h => rs_has c hc hok (f x b1 b2) (hff x b1 b2) (hfv x b1 b2) gR N M base W h)
  have CL := Lib.hid (fun gf gF gW L M W h => fs_clear c gf gF gW N L M W h)
  have CC := Lib.hid (fun gf gF gW L M W h => fs_count c gf gF gW N L M W h)
  have CO := Lib.hid (fun gf gF gW L M most W h => fs_ones c gf gF gW N L M most W h)
  have BR := Lib.hid (built_r c.cs (cf_size c hc) N)
  have RN := Lib.hid (fun gR M base W (h : RS c gR N M base W) => rs_nil hc h)
  have RG := Lib.hid (fun v => (rft_get c.cs (cf_size c hc) N v).2)
  obtain ⟨ZK, hZK⟩ : ∃ Z, Z = k0.cs := ⟨_, rfl⟩
  have z31 : Hid (∀ W, (zeroValue 43).run Tryd.prog W = .ok (.agg ZK) W) := by rw [hZK]; exact zero31
  have KYf := Lib.hid (show ∀ x b1 b2, (f x b1 b2).cs.size = ZK.size from fun x b1 b2 => by rw [hZK, Fl.cs_size _ (hff x b1 b2), Fl.cs_size _ k0_fit])
  have KZf := Lib.hid (fun x b1 b2 => fl_ik (f x b1 b2) (hff x b1 b2))
  have KAf := Lib.hid (fun x b1 b2 => Fl.cs_all (f x b1 b2))
  obtain ⟨p, hp⟩ : ∃ p : Int → Bool → Bool → List Nat, p = fun x b1 b2 => btN c (f x b1 b2) := ⟨_, rfl⟩
  have hp2 : ∀ x b1 b2, btN c (f x b1 b2) = p x b1 b2 := fun x b1 b2 => by rw [hp]
  obtain ⟨fc, hfc⟩ : ∃ fc : Int → Bool → Bool → Array Value, fc = fun x b1 b2 => (f x b1 b2).cs := ⟨_, rfl⟩
  have hfc2 : ∀ x b1 b2, (f x b1 b2).cs = fc x b1 b2 := fun x b1 b2 => by rw [hfc]
  simp only [hp2] at CI CH RI RH
  simp only [hfc2] at CK CI CH RI RH KYf KZf KAf
  have hN : N ≤ 65536 := by omega
  have hN1 : 1 ≤ N := by omega
  have HRC := Lib.hid (show ∀ W gR base, gR < base → base ≤ W.heap.size → Blk W gR 40 (rft c.cs N (.slice none 0 0)) → RS c gR N 0 base W from fun W gR base h1 h2 h3 => ⟨⟨_, h3, by rw [bitsL_zero]; exact World.ownsRow_nil _ _ _ _⟩, by omega, by omega, h1, h2⟩)
  obtain ⟨rc0, hrc0⟩ : ∃ r, r = rft c.cs N (.slice none 0 0) := ⟨_, rfl⟩
  rw [← hrc0] at BR HRC
  obtain ⟨cc, hcc⟩ : ∃ cc, cc = c.cs := ⟨_, rfl⟩
  rw [← hcc] at CF CN BR RY RZ RA
  clear hc hok hff hfv hf hv0 hv2 hv3 hE hln0 hln2 hln3 hp hp2 hfc hfc2 hZK hcc hrc0
  clear HLN0 g0 g1
  go_enter Tryd.func3, Tryd.ntmps3
  have z27o := z27.out
  go_wp2_with fail
  refine (CF.out w VI0.out).mono ?_
  rintro e V21 ⟨rfl, hy⟩
  replace K := Lib.hid (K.out.trans (hy.mono K.out.size))
  have qK0 := K.out.size
  clear hy
  go_wp2_with (((with_reducible refine wpList_blk_store (op := ⟨none, .store 29 (.tmp 11) (.tmp 37), _, _, _, _⟩) ?sg5 29 (.tmp 11) (.tmp 37) ?so5 (V21.heap.size) cc ?sx5 ?sy5 (Blk.new V21 29 ZC) RY.out RZ.out RA.out ?_); (case sg5 => rfl); (case so5 => rfl); (case sx5 => rfl); (case sy5 => rfl)))
  intro V22 hA hF hB
  have hy := ((Below.refl V21.heap.size V21).alloc (Nat.le_refl _) (.cells ZC 29)).trans (hB _ (Nat.le_refl _))
  replace K := Lib.hid (K.out.trans (hy.mono K.out.size))
  have C := Lib.hid hA
  clear hA hF hB hy
  clear z27o z27
  generalize V21.heap.size = gC at *
  have L6 : (loadVar 29 ⟨gC, 0, none⟩).run Tryd.prog V22 = .ok (.agg cc) V22 := run_blk_load (P := Tryd.prog) 29 (gC) _ C.out Tryd.underlying29 rfl RZ.out
  replace L6 := Lib.hid L6
  go_wp2_with (((with_reducible refine wpList_load_want (op := ⟨some 39, .load 29 (.tmp 11), _, _, _, _⟩) ?wg6 29 (.tmp 11) ?wo6 ⟨gC, 0, none⟩ ?wx6 (.agg cc) L6.out ?_); (case wg6 => rfl); (case wo6 => rfl); (case wx6 => rfl)))
  clear L6
  refine (CN.out V22).mono ?_
  rintro e V23 ⟨⟨gf, rfl, hgf, hF⟩, hy⟩
  replace K := Lib.hid (K.out.trans (hy.mono K.out.size))
  replace C := Lib.hid (C.out.below hy C.out.lt)
  have F := Lib.hid hF
  clear hF
  clear hy
  go_wp2_with fail
  have qK := K.out.size
  refine (CB.out gf V23 F.out (EN.out.below K.out qE)).mono ?_
  rintro e V24 ⟨⟨gF, gW, L, rfl, hS, hgW, hgF⟩, hy⟩
  replace K := Lib.hid (K.out.trans (hy.mono K.out.size))
  replace C := Lib.hid (C.out.below hy C.out.lt)
  replace F := Lib.hid (F.out.below hy F.out.lt)
  have hgW2 : w.heap.size ≤ gW := Nat.le_trans qK hgW
  have S := Lib.hid hS
  clear hS hgf hgF F
  clear hy
  have L7 : (loadVar 29 ⟨gC, 0, none⟩).run Tryd.prog V24 = .ok (.agg cc) V24 := run_blk_load (P := Tryd.prog) 29 (gC) _ C.out Tryd.underlying29 rfl RZ.out
  replace L7 := Lib.hid L7
  obtain ⟨lf, lF, lW⟩ := S.out.lts
  have qKR := K.out.size
  have hal := (Below.refl V24.heap.size V24).alloc (Nat.le_refl _) (.cells rc0 40)
  replace K := Lib.hid (K.out.trans (hal.mono K.out.size))
  replace C := Lib.hid (C.out.below hal C.out.lt)
  replace S := Lib.hid (S.out.below hal)
  have hR := Blk.new V24 40 rc0
  have hsz : (V24.alloc (.cells rc0 40)).heap.size = V24.heap.size + 1 := by simp only [World.size_alloc]
  go_wp2_with (first | ((with_reducible refine wpList_load_want (op := ⟨some 70, .load 29 (.tmp 11), _, _, _, _⟩) ?wg7 29 (.tmp 11) ?wo7 ⟨gC, 0, none⟩ ?wx7 (.agg cc) L7.out ?_); (case wg7 => rfl); (case wo7 => rfl); (case wx7 => rfl)) | ((with_reducible refine wpList_built2 (op := ⟨some 72, .build 40 #[(0, Operand.tmp 70), (1, Operand.tmp 71)], _, _, _, _⟩) ?wg72 40 #[(0, Operand.tmp 70), (1, Operand.tmp 71)] ?wo72 #[(0, .agg cc), (1, .int .i64 (N : Int))] ?wv72 rc0 ?wf72 ?_); (case wg72 => rfl); (case wo72 => rfl); (case wv72 => kernel_rfl); (case wf72 => exact BR.out)))
  clear L7 hal
  generalize V24.alloc (.cells rc0 40) = V25 at *
  generalize V24.heap.size = gR at *
  have T := Lib.hid (HRC.out V25 gR (gR + 1) (by omega) (by omega) hR)
  clear hR HRC BR C
  go_wp2
  go_loopw [17] (fun i wr => ∃ (j M : Nat), j ≤ ln2 ∧ i = .int .i64 (j : Int) ∧ Hid (FS c gf gF gW N L M wr) ∧ Hid (RS c gR N M (gR + 1) wr) ∧ Hid (Below w.heap.size w wr)) (fun i _ => ln2 - (RowKit.intOf i).toNat)
  case atStart => exact ⟨0, 0, by omega, rfl, S, T, K⟩
  case round =>
    obtain ⟨j, M, hj, rfl, Sr, Tr, Kr⟩ := hrel
    clear S T K
    by_cases hlt : j < ln2
    · have d8 : decide ((j : Int) < (ln2 : Int)) = true := decide_eq_true (by omega)
      have d9 : decide (j < ln2) = true := decide_eq_true (by omega)
      have hb2 : 0 ≤ (j : Int) ∧ (j : Int) < (ln2 : Int) := by omega
      have w6 : IntKind.i64.wrap ((j : Int) + 1) = ((j + 1 : Nat) : Int) := by rw [IntKind.wrap_i64]; omega
      obtain ⟨bb, off, e, _⟩ := RdI.cells VI2.out (by have := HLN2.out; omega)
      subst e
      have HCj := Lib.hid (fun W (h : Below w.heap.size w W) => by obtain ⟨b', o', e', hc⟩ := RdI.cells (VI2.out.below h) (by have := HLN2.out; omega); cases e'; exact hc j (by have := HLN2.out; omega))
      generalize zs2.getD j 0 = x at *
      go_upto_if 82 with fail
      go_cut [] (fun wx => ∃ M', FS c gf gF gW N L M' wx ∧ RS c gR N M' (gR + 1) wx ∧ Below w.heap.size w wx)
      case first =>
        by_cases hcl : (j : Int) = cl
        · have f1 : ((j : Int) == cl) = true := by rw [beq_iff_eq]; exact hcl
          clear hcl
          go_wp2_with fail
          refine (CL.out gf gF gW L M wr Sr.out).mono ?_
          rintro e V41 ⟨⟨v, rfl⟩, hs2, gr⟩
          replace Tr := Lib.hid (Tr.out.grown gr (by omega) (by omega))
          replace Kr := Lib.hid (Kr.out.grown gr Kr.out.size (fun k e => by cases e; exact hgW2))
          replace Sr := Lib.hid hs2
          clear hs2 gr
          obtain ⟨v1, t1, t2⟩ := Tr.out.R
          have c49 := (t1.cell 49).trans (RG.out v1)
          have f49 := t1.frozen 49
          have T2 := Lib.hid (RN.out gR M (gR + 1) _ Tr.out)
          have S2 := Lib.hid (fs_set Sr.out (.slice none 0 0) (g := gR) (by omega) (by omega) (by omega) (by omega))
          have K2 := Lib.hid (Kr.out.setCell (p := ⟨gR, 49, none⟩) (by show _ ≤ gR; omega) (.slice none 0 0))
          clear t1 t2
          go_wp2
          go_meet
          exact ⟨0, S2.out, T2.out, K2.out⟩
        · have f1 : ((j : Int) == cl) = false := by rw [beq_eq_false_iff_ne]; exact hcl
          clear hcl
          go_wp2
          go_meet
          exact ⟨M, Sr.out, Tr.out, Kr.out⟩
      case rest =>
        clear Sr Tr Kr
        obtain ⟨M, hS, hT, hK⟩ := hcut
        have Sr := Lib.hid hS
        have Tr := Lib.hid hT
        have Kr := Lib.hid hK
        clear hS hT hK
        obtain ⟨m3, hm3⟩ : ∃ m, m = x.tmod 3 := ⟨_, rfl⟩
        obtain ⟨m2, hm2⟩ : ∃ m, m = x.tmod 2 := ⟨_, rfl⟩
        obtain ⟨b1, hb1⟩ : ∃ b, b = (m3 == 0) := ⟨_, rfl⟩
        obtain ⟨b2, hb2x⟩ : ∃ b, b = (m2 == 0) := ⟨_, rfl⟩
        have HM3 := Lib.hid hm3.symm
        have HM2 := Lib.hid hm2.symm
        have HB1 := Lib.hid hb1.symm
        have HB2 := Lib.hid hb2x.symm
        have CKx := Lib.hid (CK.out x b1 b2)
        have KYx := Lib.hid (KYf.out x b1 b2)
        have KZx := Lib.hid (KZf.out x b1 b2)
        have KAx := Lib.hid (KAf.out x b1 b2)
        clear hm3 hm2 hb1 hb2x
        go_upto_region 17 with fail
        have hlow : wc.heap.size ≤ wc.heap.size := Nat.le_refl _
        obtain ⟨qf, qF, qW⟩ := Sr.out.lts
        have qR : gR < wc.heap.size := by have := Tr.out.d2; omega
        have z31o := z31.out
        go_cut [18] (fun s wx => ∃ gk, s = .pointer (some ⟨gk, 0, none⟩) ∧ gW < gk ∧ gR < gk ∧ Blk wx gk 43 (fc x b1 b2) ∧ FS c gf gF gW N L M wx ∧ RS c gR N M (gR + 1) wx ∧ Below w.heap.size w wx)
        case first =>
          refine wp_region_held (S := (fun w' : World => Below (wc.heap.size) wc w')) (by kernel_rfl) ?_
          change wpAnyH _ _ _ _ _ _ _ _ wc.drew
          have hy : Below wc.heap.size wc wc.drew := (Below.refl _ _).drew
          have hE0 : Below (wc.heap.size) wc wc.drew := (Below.refl _ _).drew
          clear hy
          generalize wc.drew = Y17x0 at hE0  ⊢
          have E0 := Lib.hid hE0
          clear hE0
          refine tkA 0 (?_) ?_ E0.out ?_
          rotate_left
          · (intro w1 hS; go_simp; try with_reducible rfl)
          simp only [Act.put, tS1, tS2, tS3]
          refine tkA 1 (?_) ?_ E0.out ?_
          rotate_left
          · (intro w1 hS; go_simp; try with_reducible rfl)
          simp only [Act.put, tS1, tS2, tS3]
          refine tkA 2 (?_) ?_ E0.out ?_
          rotate_left
          · (intro w1 hS; go_simp; try with_reducible rfl)
          simp only [Act.put, tS1, tS2, tS3]
          refine tkA 3 (?_) ?_ E0.out ?_
          rotate_left
          · (intro w1 hS; have hW := hS; have q := HCj.out w1 (Kr.out.trans (hW.mono Kr.out.size)); clear hW hS; go_simp; try with_reducible rfl)
          simp only [Act.put, tS1, tS2, tS3]
          refine tkA 4 (?_) ?_ E0.out ?_
          rotate_left
          · (intro w1 hS; go_simp; try with_reducible rfl)
          simp only [Act.put, tS1, tS2, tS3]
          refine tkA 5 (?_) ?_ E0.out ?_
          rotate_left
          · (intro w1 hS; go_simp; try with_reducible rfl)
          simp only [Act.put, tS1, tS2, tS3]
          refine tkA 6 (?_) ?_ E0.out ?_
          rotate_left
          · (intro w1 hS; go_simp; try with_reducible rfl)
          simp only [Act.put, tS1, tS2, tS3]
          refine tkA 7 (?_) ?_ E0.out ?_
          rotate_left
          · (intro w1 hS; have hW := hS; have q := HCj.out w1 (Kr.out.trans (hW.mono Kr.out.size)); clear hW hS; go_simp; try with_reducible rfl)
          simp only [Act.put, tS1, tS2, tS3]
          refine tkA 8 (?_) ?_ E0.out ?_
          rotate_left
          · (intro w1 hS; have hW := hS; have q := HM3.out; clear hW hS; go_simp; try with_reducible rfl)
          simp only [Act.put, tS1, tS2, tS3]
          refine tkA 9 (?_) ?_ E0.out ?_
          rotate_left
          · (intro w1 hS; have hW := hS; have q := HB1.out; clear hW hS; go_simp; try with_reducible rfl)
          simp only [Act.put, tS1, tS2, tS3]
          refine tkA 10 (?_) ?_ E0.out ?_
          rotate_left
          · (intro w1 hS; go_simp; try with_reducible rfl)
          simp only [Act.put, tS1, tS2, tS3]
          refine tkA 11 (?_) ?_ E0.out ?_
          rotate_left
          · (intro w1 hS; go_simp; try with_reducible rfl)
          simp only [Act.put, tS1, tS2, tS3]
          refine tkA 12 (?_) ?_ E0.out ?_
          rotate_left
          · (intro w1 hS; go_simp; try with_reducible rfl)
          simp only [Act.put, tS1, tS2, tS3]
          refine tkA 13 (?_) ?_ E0.out ?_
          rotate_left
          · (intro w1 hS; have hW := hS; have q := HCj.out w1 (Kr.out.trans (hW.mono Kr.out.size)); clear hW hS; go_simp; try with_reducible rfl)
          simp only [Act.put, tS1, tS2, tS3]
          refine tkA 14 (?_) ?_ E0.out ?_
          rotate_left
          · (intro w1 hS; have hW := hS; have q := HM2.out; clear hW hS; go_simp; try with_reducible rfl)
          simp only [Act.put, tS1, tS2, tS3]
          refine tkA 15 (?_) ?_ E0.out ?_
          rotate_left
          · (intro w1 hS; have hW := hS; have q := HB2.out; clear hW hS; go_simp; try with_reducible rfl)
          simp only [Act.put, tS1, tS2, tS3]
          refine wpAnyH_ready (rs := [16, 17]) (by kernel_rfl) (by simp) ?_
          refine AllReadyH.cons (o := { dst := some 104, op := Op.call { callee := Callee.value (Operand.func 12), args := #[Operand.tmp 91, Operand.tmp 97, Operand.tmp 103], argTypes := #[3, 4, 4] }, type := 43, pos := "law.go:65", after := #[{ on := 3, ground := Ground.data }, { on := 9, ground := Ground.data }, { on := 15, ground := Ground.data }], guard := none }) rfl (fun KK hK => ?_) ?_
          · go_simp
            refine (CKx.out Y17x0).mono ?_
            rintro e Y17x1 ⟨rfl, hy⟩
            have E1 := Lib.hid (E0.out.trans (hy.mono (Nat.le_trans hlow E0.out.size)))
            have C1 := Lib.hid E1.out
            clear hy E0
            refine hK.out _ _ C1.out (fun _ => ?_)
            clear hK KK
            clear C1
            try simp only [Act.put, tS1, tS2, tS3]
            refine tkO 17 (fun KK hK => ?_)
            go_simp
            have hy := (Below.refl Y17x1.heap.size Y17x1).alloc (Nat.le_refl _) (.cells ZK 43)
            have BB := Blk.new Y17x1 43 ZK
            have gl := E1.out.size
            generalize Y17x1.alloc (.cells ZK 43) = Y17x2 at BB hy ⊢
            have E2 := Lib.hid (E1.out.trans (hy.mono (Nat.le_trans hlow E1.out.size)))
            have C2 := Lib.hid E2.out
            have G := Lib.hid (BB)
            clear BB
            clear hy E1
            refine hK.out _ _ C2.out (fun _ => ?_)
            clear hK KK
            clear C2
            try simp only [Act.put, tS1, tS2, tS3]
            refine tkO 18 (fun KK hK => ?_)
            rw [if_pos (by rfl)]
            refine wp_blk_store 43 (.tmp 18) (.tmp 104) rfl (fc x b1 b2) rfl rfl G.out KYx.out KZx.out KAx.out ?_
            intro Y17x3 hA hF hB
            have E3 := Lib.hid (E2.out.trans (hB _ gl))
            clear hF hB E2
            refine hK.out _ _ E3.out (fun _ => ?_)
            clear hK KK
            refine wpAnyH_done (by kernel_rfl) ?_ _
            go_wp2
            go_meet
            exact ⟨_, rfl, by omega, by omega, hA, Sr.out.below E3.out, Tr.out.below E3.out, Kr.out.trans (E3.out.mono Kr.out.size)⟩
          refine AllReadyH.cons (o := { dst := some 18, op := Op.alloc 43, type := 0, pos := "law.go:65", after := #[], guard := none }) rfl (fun KK hK => ?_) AllReadyH.nil
          go_simp
          have hy := (Below.refl Y17x0.heap.size Y17x0).alloc (Nat.le_refl _) (.cells ZK 43)
          have BB := Blk.new Y17x0 43 ZK
          have gl := E0.out.size
          generalize Y17x0.alloc (.cells ZK 43) = Y17x1 at BB hy ⊢
          have E1 := Lib.hid (E0.out.trans (hy.mono (Nat.le_trans hlow E0.out.size)))
          have C1 := Lib.hid E1.out
          have G := Lib.hid (BB)
          clear BB
          clear hy E0
          refine hK.out _ _ C1.out (fun _ => ?_)
          clear hK KK
          clear C1
          try simp only [Act.put, tS1, tS2, tS3]
          refine tkO 16 (fun KK hK => ?_)
          go_simp
          refine (CKx.out Y17x1).mono ?_
          rintro e Y17x2 ⟨rfl, hy⟩
          replace G := Lib.hid (G.out.below hy G.out.lt)
          have E2 := Lib.hid (E1.out.trans (hy.mono (Nat.le_trans hlow E1.out.size)))
          have C2 := Lib.hid E2.out
          clear hy E1
          refine hK.out _ _ C2.out (fun _ => ?_)
          clear hK KK
          clear C2
          try simp only [Act.put, tS1, tS2, tS3]
          refine tkO 18 (fun KK hK => ?_)
          rw [if_pos (by rfl)]
          refine wp_blk_store 43 (.tmp 18) (.tmp 104) rfl (fc x b1 b2) rfl rfl G.out KYx.out KZx.out KAx.out ?_
          intro Y17x3 hA hF hB
          have E3 := Lib.hid (E2.out.trans (hB _ gl))
          clear hF hB E2
          refine hK.out _ _ E3.out (fun _ => ?_)
          clear hK KK
          refine wpAnyH_done (by kernel_rfl) ?_ _
          go_wp2
          go_meet
          exact ⟨_, rfl, by omega, by omega, hA, Sr.out.below E3.out, Tr.out.below E3.out, Kr.out.trans (E3.out.mono Kr.out.size)⟩
        case rest =>
          obtain ⟨gk, rfl, hkW, hkR, hN, hS, hT, hK⟩ := hcut
          clear Sr Tr Kr z31o hlow qf qF qW qR
          have Sr := Lib.hid hS
          have Tr := Lib.hid hT
          have Kr := Lib.hid hK
          have NK := Lib.hid hN
          clear hS hT hK hN
          have CIx := Lib.hid (fun W h => CI.out x b1 b2 gf gF gW L M W h)
          have RIx := Lib.hid (fun W h => RI.out x b1 b2 gR M (gR + 1) W h)
          generalize hasB N (p x b1 b2) M = hd at *
          generalize insB N (p x b1 b2) M = M2 at *
          generalize fc x b1 b2 = kc at *
          have dR : gR ≠ gf ∧ gR ≠ gF ∧ gR ≠ gW ∧ 0 < gR := by omega
          go_wp2_with fail
          refine wp_region_held (S := (fun w' : World => Blk w' (gk) 43 kc)) (by kernel_rfl) ?_
          change wpAnyH _ _ _ _ _ _ _ _ wc.drew
          have hy : Below wc.heap.size wc wc.drew := (Below.refl _ _).drew
          replace Sr := Lib.hid (Sr.out.below hy)
          replace Tr := Lib.hid (Tr.out.below hy)
          replace Kr := Lib.hid (Kr.out.trans (hy.mono Kr.out.size))
          replace NK := Lib.hid (NK.out.below hy NK.out.lt)
          clear hy
          generalize wc.drew = Y18h0 at *
          refine tkA 0 (?_) ?_ NK.out ?_
          rotate_left
          · (intro w1 hS; go_simp; try with_reducible rfl)
          simp only [Act.put, tS1, tS2, tS3]
          refine tkA 1 (.agg kc) ?_ NK.out ?_
          · (intro w1 hS; exact exec_load 43 (.tmp 18) rfl _ rfl _ (run_blk_load (P := Tryd.prog) 43 (gk) _ hS Tryd.underlying43 rfl KZx.out))
          simp only [Act.put, tS1, tS2, tS3]
          refine tkA 3 (?_) ?_ NK.out ?_
          rotate_left
          · (intro w1 hS; go_simp; try with_reducible rfl)
          simp only [Act.put, tS1, tS2, tS3]
          refine tkA 4 (.agg kc) ?_ NK.out ?_
          · (intro w1 hS; exact exec_load 43 (.tmp 18) rfl _ rfl _ (run_blk_load (P := Tryd.prog) 43 (gk) _ hS Tryd.underlying43 rfl KZx.out))
          simp only [Act.put, tS1, tS2, tS3]
          refine tkO 2 (fun KK hK => ?_)
          go_simp
          refine (CIx.out Y18h0 Sr.out).mono ?_
          rintro e Y18h1 ⟨rfl, hs2, gr⟩
          replace Tr := Lib.hid (Tr.out.grown gr (by omega) (by omega))
          replace Kr := Lib.hid (Kr.out.grown gr Kr.out.size (fun k e => by cases e; exact hgW2))
          replace NK := Lib.hid (show Blk _ _ _ _ from (gr.block _ NK.out.lt (fun e => by cases e; omega)).trans NK.out)
          replace Sr := Lib.hid hs2
          clear hs2 gr
          refine hK.out _ _ NK.out (fun _ => ?_)
          clear hK KK
          try simp only [Act.put, tS1, tS2, tS3]
          refine tkO 5 (fun KK hK => ?_)
          go_simp
          refine (RIx.out Y18h1 Tr.out).mono ?_
          rintro e Y18h2 ⟨rfl, hs2, gr⟩
          replace Sr := Lib.hid (Sr.out.grown gr dR.1 dR.2.1 dR.2.2.1 dR.2.2.2)
          replace Kr := Lib.hid (Kr.out.grown gr Kr.out.size (fun k e => by cases e; omega))
          replace NK := Lib.hid (show Blk _ _ _ _ from (gr.block _ NK.out.lt (fun e => by cases e; omega)).trans NK.out)
          replace Tr := Lib.hid hs2
          clear hs2 gr
          refine hK.out _ _ NK.out (fun _ => ?_)
          clear hK KK
          try simp only [Act.put, tS1, tS2, tS3]
          refine tkA 6 (?_) ?_ NK.out ?_
          rotate_left
          · (intro w1 hS; go_simp; try with_reducible rfl)
          simp only [Act.put, tS1, tS2, tS3]
          refine wpAnyH_done (by kernel_rfl) ?_ _
          go_wp2
          go_roundw
          case rel => exact ⟨j + 1, M2, Nat.succ_le_of_lt hlt, by go_num, Sr, Tr, Kr⟩
          case measure => simp [RowKit.intOf]; omega
    · obtain rfl : j = ln2 := by omega
      have d8 : decide (((j : Nat) : Int) < (j : Int)) = false := decide_eq_false (by omega)
      have d9 : decide (j < j) = false := decide_eq_false (by omega)
      go_wp2
      go_loopw [19] (fun i wr => ∃ k : Nat, k ≤ ln3 ∧ i = .int .i64 (k : Int) ∧ Hid (FS c gf gF gW N L M wr) ∧ Hid (RS c gR N M (gR + 1) wr) ∧ Hid (Below w.heap.size w wr)) (fun i _ => ln3 - (RowKit.intOf i).toNat)
      case atStart => exact ⟨0, by omega, rfl, Sr, Tr, Kr⟩
      case round =>
        obtain ⟨k, hk, rfl, Sq, Tq, Kq⟩ := hrel
        clear Sr Tr Kr
        have Sr := Sq
        have Tr := Tq
        have Kr := Kq
        clear Sq Tq Kq
        by_cases hlt : k < ln3
        · have f8 : decide ((k : Int) < (ln3 : Int)) = true := decide_eq_true (by omega)
          have f9 : decide (k < ln3) = true := decide_eq_true (by omega)
          have hb2 : 0 ≤ (k : Int) ∧ (k : Int) < (ln3 : Int) := by omega
          have w6 : IntKind.i64.wrap ((k : Int) + 1) = ((k + 1 : Nat) : Int) := by rw [IntKind.wrap_i64]; omega
          obtain ⟨bb, off, e, _⟩ := RdI.cells VI3.out (by have := HLN3.out; omega)
          subst e
          have HCj := Lib.hid (fun W (h : Below w.heap.size w W) => by obtain ⟨b', o', e', hc⟩ := RdI.cells (VI3.out.below h) (by have := HLN3.out; omega); cases e'; exact hc k (by have := HLN3.out; omega))
          generalize zs3.getD k 0 = x at *
          obtain ⟨m3, hm3⟩ : ∃ m, m = x.tmod 3 := ⟨_, rfl⟩
          obtain ⟨m2, hm2⟩ : ∃ m, m = x.tmod 2 := ⟨_, rfl⟩
          obtain ⟨b1, hb1⟩ : ∃ b, b = (m3 == 0) := ⟨_, rfl⟩
          obtain ⟨b2, hb2x⟩ : ∃ b, b = (m2 == 0) := ⟨_, rfl⟩
          have HM3 := Lib.hid hm3.symm
          have HM2 := Lib.hid hm2.symm
          have HB1 := Lib.hid hb1.symm
          have HB2 := Lib.hid hb2x.symm
          have CKx := Lib.hid (CK.out x b1 b2)
          have KYx := Lib.hid (KYf.out x b1 b2)
          have KZx := Lib.hid (KZf.out x b1 b2)
          have KAx := Lib.hid (KAf.out x b1 b2)
          clear hm3 hm2 hb1 hb2x
          go_upto_region 23 with fail
          have hlow : wr.heap.size ≤ wr.heap.size := Nat.le_refl _
          obtain ⟨qf, qF, qW⟩ := Sr.out.lts
          have qR : gR < wr.heap.size := by have := Tr.out.d2; omega
          have z31o := z31.out
          go_cut [20] (fun s wx => ∃ gk, s = .pointer (some ⟨gk, 0, none⟩) ∧ gW < gk ∧ gR < gk ∧ Blk wx gk 43 (fc x b1 b2) ∧ FS c gf gF gW N L M wx ∧ RS c gR N M (gR + 1) wx ∧ Below w.heap.size w wx)
          case first =>
            refine wp_region_held (S := (fun w' : World => Below (wr.heap.size) wr w')) (by kernel_rfl) ?_
            change wpAnyH _ _ _ _ _ _ _ _ wr.drew
            have hy : Below wr.heap.size wr wr.drew := (Below.refl _ _).drew
            have hE0 : Below (wr.heap.size) wr wr.drew := (Below.refl _ _).drew
            clear hy
            generalize wr.drew = Y23x0 at hE0  ⊢
            have E0 := Lib.hid hE0
            clear hE0
            refine tkA 0 (?_) ?_ E0.out ?_
            rotate_left
            · (intro w1 hS; go_simp; try with_reducible rfl)
            simp only [Act.put, tS1, tS2, tS3]
            refine tkA 1 (?_) ?_ E0.out ?_
            rotate_left
            · (intro w1 hS; go_simp; try with_reducible rfl)
            simp only [Act.put, tS1, tS2, tS3]
            refine tkA 2 (?_) ?_ E0.out ?_
            rotate_left
            · (intro w1 hS; go_simp; try with_reducible rfl)
            simp only [Act.put, tS1, tS2, tS3]
            refine tkA 3 (?_) ?_ E0.out ?_
            rotate_left
            · (intro w1 hS; have hW := hS; have q := HCj.out w1 (Kr.out.trans (hW.mono Kr.out.size)); clear hW hS; go_simp; try with_reducible rfl)
            simp only [Act.put, tS1, tS2, tS3]
            refine tkA 4 (?_) ?_ E0.out ?_
            rotate_left
            · (intro w1 hS; go_simp; try with_reducible rfl)
            simp only [Act.put, tS1, tS2, tS3]
            refine tkA 5 (?_) ?_ E0.out ?_
            rotate_left
            · (intro w1 hS; go_simp; try with_reducible rfl)
            simp only [Act.put, tS1, tS2, tS3]
            refine tkA 6 (?_) ?_ E0.out ?_
            rotate_left
            · (intro w1 hS; go_simp; try with_reducible rfl)
            simp only [Act.put, tS1, tS2, tS3]
            refine tkA 7 (?_) ?_ E0.out ?_
            rotate_left
            · (intro w1 hS; have hW := hS; have q := HCj.out w1 (Kr.out.trans (hW.mono Kr.out.size)); clear hW hS; go_simp; try with_reducible rfl)
            simp only [Act.put, tS1, tS2, tS3]
            refine tkA 8 (?_) ?_ E0.out ?_
            rotate_left
            · (intro w1 hS; have hW := hS; have q := HM3.out; clear hW hS; go_simp; try with_reducible rfl)
            simp only [Act.put, tS1, tS2, tS3]
            refine tkA 9 (?_) ?_ E0.out ?_
            rotate_left
            · (intro w1 hS; have hW := hS; have q := HB1.out; clear hW hS; go_simp; try with_reducible rfl)
            simp only [Act.put, tS1, tS2, tS3]
            refine tkA 10 (?_) ?_ E0.out ?_
            rotate_left
            · (intro w1 hS; go_simp; try with_reducible rfl)
            simp only [Act.put, tS1, tS2, tS3]
            refine tkA 11 (?_) ?_ E0.out ?_
            rotate_left
            · (intro w1 hS; go_simp; try with_reducible rfl)
            simp only [Act.put, tS1, tS2, tS3]
            refine tkA 12 (?_) ?_ E0.out ?_
            rotate_left
            · (intro w1 hS; go_simp; try with_reducible rfl)
            simp only [Act.put, tS1, tS2, tS3]
            refine tkA 13 (?_) ?_ E0.out ?_
            rotate_left
            · (intro w1 hS; have hW := hS; have q := HCj.out w1 (Kr.out.trans (hW.mono Kr.out.size)); clear hW hS; go_simp; try with_reducible rfl)
            simp only [Act.put, tS1, tS2, tS3]
            refine tkA 14 (?_) ?_ E0.out ?_
            rotate_left
            · (intro w1 hS; have hW := hS; have q := HM2.out; clear hW hS; go_simp; try with_reducible rfl)
            simp only [Act.put, tS1, tS2, tS3]
            refine tkA 15 (?_) ?_ E0.out ?_
            rotate_left
            · (intro w1 hS; have hW := hS; have q := HB2.out; clear hW hS; go_simp; try with_reducible rfl)
            simp only [Act.put, tS1, tS2, tS3]
            refine wpAnyH_ready (rs := [16, 17]) (by kernel_rfl) (by simp) ?_
            refine AllReadyH.cons (o := { dst := some 134, op := Op.call { callee := Callee.value (Operand.func 12), args := #[Operand.tmp 121, Operand.tmp 127, Operand.tmp 133], argTypes := #[3, 4, 4] }, type := 43, pos := "law.go:71", after := #[{ on := 3, ground := Ground.data }, { on := 9, ground := Ground.data }, { on := 15, ground := Ground.data }], guard := none }) rfl (fun KK hK => ?_) ?_
            · go_simp
              refine (CKx.out Y23x0).mono ?_
              rintro e Y23x1 ⟨rfl, hy⟩
              have E1 := Lib.hid (E0.out.trans (hy.mono (Nat.le_trans hlow E0.out.size)))
              have C1 := Lib.hid E1.out
              clear hy E0
              refine hK.out _ _ C1.out (fun _ => ?_)
              clear hK KK
              clear C1
              try simp only [Act.put, tS1, tS2, tS3]
              refine tkO 17 (fun KK hK => ?_)
              go_simp
              have hy := (Below.refl Y23x1.heap.size Y23x1).alloc (Nat.le_refl _) (.cells ZK 43)
              have BB := Blk.new Y23x1 43 ZK
              have gl := E1.out.size
              generalize Y23x1.alloc (.cells ZK 43) = Y23x2 at BB hy ⊢
              have E2 := Lib.hid (E1.out.trans (hy.mono (Nat.le_trans hlow E1.out.size)))
              have C2 := Lib.hid E2.out
              have G := Lib.hid (BB)
              clear BB
              clear hy E1
              refine hK.out _ _ C2.out (fun _ => ?_)
              clear hK KK
              clear C2
              try simp only [Act.put, tS1, tS2, tS3]
              refine tkO 18 (fun KK hK => ?_)
              rw [if_pos (by rfl)]
              refine wp_blk_store 43 (.tmp 20) (.tmp 134) rfl (fc x b1 b2) rfl rfl G.out KYx.out KZx.out KAx.out ?_
              intro Y23x3 hA hF hB
              have E3 := Lib.hid (E2.out.trans (hB _ gl))
              clear hF hB E2
              refine hK.out _ _ E3.out (fun _ => ?_)
              clear hK KK
              refine wpAnyH_done (by kernel_rfl) ?_ _
              go_wp2
              go_meet
              exact ⟨_, rfl, by omega, by omega, hA, Sr.out.below E3.out, Tr.out.below E3.out, Kr.out.trans (E3.out.mono Kr.out.size)⟩
            refine AllReadyH.cons (o := { dst := some 20, op := Op.alloc 43, type := 0, pos := "law.go:71", after := #[], guard := none }) rfl (fun KK hK => ?_) AllReadyH.nil
            go_simp
            have hy := (Below.refl Y23x0.heap.size Y23x0).alloc (Nat.le_refl _) (.cells ZK 43)
            have BB := Blk.new Y23x0 43 ZK
            have gl := E0.out.size
            generalize Y23x0.alloc (.cells ZK 43) = Y23x1 at BB hy ⊢
            have E1 := Lib.hid (E0.out.trans (hy.mono (Nat.le_trans hlow E0.out.size)))
            have C1 := Lib.hid E1.out
            have G := Lib.hid (BB)
            clear BB
            clear hy E0
            refine hK.out _ _ C1.out (fun _ => ?_)
            clear hK KK
            clear C1
            try simp only [Act.put, tS1, tS2, tS3]
            refine tkO 16 (fun KK hK => ?_)
            go_simp
            refine (CKx.out Y23x1).mono ?_
            rintro e Y23x2 ⟨rfl, hy⟩
            replace G := Lib.hid (G.out.below hy G.out.lt)
            have E2 := Lib.hid (E1.out.trans (hy.mono (Nat.le_trans hlow E1.out.size)))
            have C2 := Lib.hid E2.out
            clear hy E1
            refine hK.out _ _ C2.out (fun _ => ?_)
            clear hK KK
            clear C2
            try simp only [Act.put, tS1, tS2, tS3]
            refine tkO 18 (fun KK hK => ?_)
            rw [if_pos (by rfl)]
            refine wp_blk_store 43 (.tmp 20) (.tmp 134) rfl (fc x b1 b2) rfl rfl G.out KYx.out KZx.out KAx.out ?_
            intro Y23x3 hA hF hB
            have E3 := Lib.hid (E2.out.trans (hB _ gl))
            clear hF hB E2
            refine hK.out _ _ E3.out (fun _ => ?_)
            clear hK KK
            refine wpAnyH_done (by kernel_rfl) ?_ _
            go_wp2
            go_meet
            exact ⟨_, rfl, by omega, by omega, hA, Sr.out.below E3.out, Tr.out.below E3.out, Kr.out.trans (E3.out.mono Kr.out.size)⟩
          case rest =>
            obtain ⟨gk, rfl, hkW, hkR, hN, hS, hT, hK⟩ := hcut
            clear Sr Tr Kr z31o hlow qf qF qW qR
            have Sr := Lib.hid hS
            have Tr := Lib.hid hT
            have Kr := Lib.hid hK
            have NK := Lib.hid hN
            clear hS hT hK hN
            have CHx := Lib.hid (fun W h => CH.out x b1 b2 gf gF gW L M W h)
            have RHx := Lib.hid (fun W h => RH.out x b1 b2 gR M (gR + 1) W h)
            generalize hasB N (p x b1 b2) M = hd at *
            generalize fc x b1 b2 = kc at *
            go_wp2_with fail
            refine wp_region_held (S := (fun w' : World => Below (wc.heap.size) wc w')) (by kernel_rfl) ?_
            change wpAnyH _ _ _ _ _ _ _ _ wc.drew
            have hy : Below wc.heap.size wc wc.drew := (Below.refl _ _).drew
            have hE0 : Below (wc.heap.size) wc wc.drew := (Below.refl _ _).drew
            clear hy
            generalize wc.drew = Y24x0 at hE0  ⊢
            have E0 := Lib.hid hE0
            clear hE0
            refine tkA 0 (?_) ?_ E0.out ?_
            rotate_left
            · (intro w1 hS; go_simp; try with_reducible rfl)
            simp only [Act.put, tS1, tS2, tS3]
            refine tkA 1 (.agg kc) ?_ E0.out ?_
            · (intro w1 hS; have hW := hS; exact exec_load 43 (.tmp 20) rfl _ rfl _ (run_blk_load (P := Tryd.prog) 43 (gk) _ (NK.out.below hW NK.out.lt) Tryd.underlying43 rfl KZx.out))
            simp only [Act.put, tS1, tS2, tS3]
            refine tkA 3 (?_) ?_ E0.out ?_
            rotate_left
            · (intro w1 hS; go_simp; try with_reducible rfl)
            simp only [Act.put, tS1, tS2, tS3]
            refine tkA 4 (.agg kc) ?_ E0.out ?_
            · (intro w1 hS; have hW := hS; exact exec_load 43 (.tmp 20) rfl _ rfl _ (run_blk_load (P := Tryd.prog) 43 (gk) _ (NK.out.below hW NK.out.lt) Tryd.underlying43 rfl KZx.out))
            simp only [Act.put, tS1, tS2, tS3]
            refine tkO 2 (fun KK hK => ?_)
            go_simp
            refine (CHx.out Y24x0 (Sr.out.below E0.out)).mono ?_
            rintro e Y24x1 ⟨rfl, hy⟩
            have E1 := Lib.hid (E0.out.trans (hy.mono E0.out.size))
            have C1 := Lib.hid E1.out
            clear hy E0
            refine hK.out _ _ C1.out (fun _ => ?_)
            clear hK KK
            refine wpAnyH_mono (S' := (fun w' : World => Below Y24x1.heap.size Y24x1 w')) (fun w1 h => C1.out.trans (h.mono C1.out.size)) _ _ _ _ ?_
            clear C1
            try simp only [Act.put, tS1, tS2, tS3]
            refine tkO 5 (fun KK hK => ?_)
            go_simp
            have Tr3 := Lib.hid (Tr.out.below E1.out)
            refine (RHx.out Y24x1 Tr3.out).mono ?_
            rintro e Y24x2 ⟨rfl, hy⟩
            have E2 := Lib.hid (E1.out.trans (hy.mono E1.out.size))
            have C2 := Lib.hid hy
            clear Tr3
            clear hy E1
            refine hK.out _ _ C2.out (fun _ => ?_)
            clear hK KK
            refine wpAnyH_mono (S' := (fun w' : World => Below Y24x2.heap.size Y24x2 w')) (fun w1 h => C2.out.trans (h.mono C2.out.size)) _ _ _ _ ?_
            clear C2
            try simp only [Act.put, tS1, tS2, tS3]
            refine tkA 6 (?_) ?_ (Below.refl _ _) ?_
            rotate_left
            · (intro w1 hS; go_simp; try with_reducible rfl)
            simp only [Act.put, tS1, tS2, tS3]
            refine wpAnyH_done (by kernel_rfl) ?_ _
            have hy := E2.out
            replace Sr := Lib.hid (Sr.out.below hy)
            replace Tr := Lib.hid (Tr.out.below hy)
            replace Kr := Lib.hid (Kr.out.trans (hy.mono Kr.out.size))
            replace NK := Lib.hid (NK.out.below hy NK.out.lt)
            clear hy E2
            go_wp2
            go_roundw
            case rel => exact ⟨k + 1, Nat.succ_le_of_lt hlt, by go_num, Sr, Tr, Kr⟩
            case measure => simp [RowKit.intOf]; omega
        · obtain rfl : k = ln3 := by omega
          have f8 : decide (((k : Nat) : Int) < (k : Int)) = false := decide_eq_false (by omega)
          have f9 : decide (k < k) = false := decide_eq_false (by omega)
          obtain ⟨v, t1, t2⟩ := Tr.out.R
          have Rb := Lib.hid t1
          have Vr := Lib.hid t2
          have RGv := Lib.hid (RG.out v)
          have CO1 := Lib.hid (fun W h => CO.out gf gF gW L M (-1) W h)
          have CO2 := Lib.hid (fun W h => CO.out gf gF gW L M (((bitsL M N).length / 2 : Nat) : Int) W h)
          rw [cut_alln] at CO1
          rw [cut_half] at CO2
          have CC1 := Lib.hid (fun W h => CC.out gf gF gW L M W h)
          have hbn := bitsL_le M N
          clear t1 t2 Tr CO CC RG CI CH RI RH CL CK KYf KZf KAf RN z31
          generalize bitsL M N = bl at *
          obtain ⟨n, hn⟩ : ∃ n, n = bl.length := ⟨_, rfl⟩
          rw [← hn] at CC1 CO1 CO2 Vr hbn
          obtain ⟨h, hh⟩ : ∃ h, h = n / 2 := ⟨_, rfl⟩
          rw [← hh] at CO2
          have hhn : h ≤ n := by omega
          have w1 : IntKind.i64.wrap ((n : Int) / 2) = (h : Int) := by rw [IntKind.wrap_i64]; omega
          have w2 : (n : Int) / 2 = (h : Int) := by omega
          have HTL := Lib.hid (show (bl.take h).length = h by rw [List.length_take]; omega)
          have IT1 := Lib.hid (fun va vb W h1 h2 => ints_any va vb bl W h1 h2 (by omega))
          have IT2 := Lib.hid (fun va vb W h1 h2 => ints_any va vb (bl.take h) W h1 h2 (by rw [List.length_take]; omega))
          have HNB := Lib.hid hn
          have EW := Lib.hid (EN.out.below Kr.out qE)
          generalize rft c.cs N v = rc at *
          rcases row_two Vr.out with ⟨rfl, hz⟩ | ⟨g, cap, rfl, hc1, hc2⟩
          · subst hz
            have hz0 : h = 0 := by omega
            subst hz0
            have HB0 : Hid (bl = []) := List.eq_nil_of_length_eq_zero HNB.out.symm
            clear hn hh w1 w2
            have VF := Lib.hid (show ∀ W, Rd W (.slice none 0 0) (nus .i64 (bl.take 0)) from fun W => rd_nil W .i64)
            rw [show ((0 : Nat) : Int) = 0 from rfl] at CO2
            have L8 := (Rb.out.cell 49).trans RGv.out
            go_wp2_with fail
            clear L8
            refine wp_region_held (S := (fun w' : World => Below (wr.heap.size) wr w')) (by kernel_rfl) ?_
            change wpAnyH _ _ _ _ _ _ _ _ wr.drew
            have hy : Below wr.heap.size wr wr.drew := (Below.refl _ _).drew
            have hE0 : Below (wr.heap.size) wr wr.drew := (Below.refl _ _).drew
            clear hy
            generalize wr.drew = Y27x0 at hE0  ⊢
            have E0 := Lib.hid hE0
            clear hE0
            refine tkA 0 (?_) ?_ E0.out ?_
            rotate_left
            · (intro w1 hS; go_simp; try with_reducible rfl)
            simp only [Act.put, tS1, tS2, tS3]
            refine tkA 2 (?_) ?_ E0.out ?_
            rotate_left
            · (intro w1 hS; go_simp; try with_reducible rfl)
            simp only [Act.put, tS1, tS2, tS3]
            refine tkA 3 (?_) ?_ E0.out ?_
            rotate_left
            · (intro w1 hS; go_simp; try with_reducible rfl)
            simp only [Act.put, tS1, tS2, tS3]
            refine tkA 4 (?_) ?_ E0.out ?_
            rotate_left
            · (intro w1 hS; go_simp; try with_reducible rfl)
            simp only [Act.put, tS1, tS2, tS3]
            refine tkA 5 (?_) ?_ E0.out ?_
            rotate_left
            · (intro w1 hS; have hW := hS; have q := ((Rb.out.below hW Rb.out.lt).cell 49).trans RGv.out; clear hW hS; go_simp; try with_reducible rfl)
            simp only [Act.put, tS1, tS2, tS3]
            refine tkO 1 (fun KK hK => ?_)
            go_simp
            refine (CO1.out Y27x0 (Sr.out.below E0.out)).mono ?_
            rintro e Y27x1 ⟨x1, rfl, hx, hy⟩
            have E1 := Lib.hid (E0.out.trans (hy.mono E0.out.size))
            have C1 := Lib.hid E1.out
            have X1 := Lib.hid (Rd.own hx)
            clear hx
            clear hy E0
            refine hK.out _ _ C1.out (fun _ => ?_)
            clear hK KK
            refine wpAnyH_mono (S' := (fun w' : World => Below Y27x1.heap.size Y27x1 w')) (fun w1 h => C1.out.trans (h.mono C1.out.size)) _ _ _ _ ?_
            clear C1
            try simp only [Act.put, tS1, tS2, tS3]
            refine tkO 6 (fun KK hK => ?_)
            go_simp
            refine (IT1.out x1 (.slice none 0 0) Y27x1 X1.out ((Rd.own Vr.out).below E1.out)).mono ?_
            rintro e Y27x2 ⟨rfl, hy⟩
            have E2 := Lib.hid (E1.out.trans (hy.mono E1.out.size))
            have C2 := Lib.hid hy
            clear X1
            clear hy E1
            refine hK.out _ _ C2.out (fun _ => ?_)
            clear hK KK
            refine wpAnyH_mono (S' := (fun w' : World => Below Y27x2.heap.size Y27x2 w')) (fun w1 h => C2.out.trans (h.mono C2.out.size)) _ _ _ _ ?_
            clear C2
            try simp only [Act.put, tS1, tS2, tS3]
            refine tkA 7 (?_) ?_ (Below.refl _ _) ?_
            rotate_left
            · (intro w1 hS; go_simp; try with_reducible rfl)
            simp only [Act.put, tS1, tS2, tS3]
            refine tkA 8 (?_) ?_ (Below.refl _ _) ?_
            rotate_left
            · (intro w1 hS; go_simp; try with_reducible rfl)
            simp only [Act.put, tS1, tS2, tS3]
            refine tkA 9 (?_) ?_ (Below.refl _ _) ?_
            rotate_left
            · (intro w1 hS; go_simp; try with_reducible rfl)
            simp only [Act.put, tS1, tS2, tS3]
            refine tkA 11 (?_) ?_ (Below.refl _ _) ?_
            rotate_left
            · (intro w1 hS; go_simp; try with_reducible rfl)
            simp only [Act.put, tS1, tS2, tS3]
            refine tkA 12 (?_) ?_ (Below.refl _ _) ?_
            rotate_left
            · (intro w1 hS; go_simp; try with_reducible rfl)
            simp only [Act.put, tS1, tS2, tS3]
            refine tkA 13 (?_) ?_ (Below.refl _ _) ?_
            rotate_left
            · (intro w1 hS; go_simp; try with_reducible rfl)
            simp only [Act.put, tS1, tS2, tS3]
            refine tkA 14 (?_) ?_ (Below.refl _ _) ?_
            rotate_left
            · (intro w1 hS; have hW := E2.out.trans (hS.mono E2.out.size); have q := ((Rb.out.below hW Rb.out.lt).cell 49).trans RGv.out; clear hW hS; go_simp; try with_reducible rfl)
            simp only [Act.put, tS1, tS2, tS3]
            refine tkA 15 (?_) ?_ (Below.refl _ _) ?_
            rotate_left
            · (intro w1 hS; go_simp; try with_reducible rfl)
            simp only [Act.put, tS1, tS2, tS3]
            refine tkA 16 (?_) ?_ (Below.refl _ _) ?_
            rotate_left
            · (intro w1 hS; go_simp; try with_reducible rfl)
            simp only [Act.put, tS1, tS2, tS3]
            refine tkO 10 (fun KK hK => ?_)
            go_simp
            refine (CO2.out Y27x2 (Sr.out.below E2.out)).mono ?_
            rintro e Y27x3 ⟨x2, rfl, hx, hy⟩
            have E3 := Lib.hid (E2.out.trans (hy.mono E2.out.size))
            have C3 := Lib.hid hy
            have X2 := Lib.hid (Rd.own hx)
            clear hx
            clear hy E2
            refine hK.out _ _ C3.out (fun _ => ?_)
            clear hK KK
            refine wpAnyH_mono (S' := (fun w' : World => Below Y27x3.heap.size Y27x3 w')) (fun w1 h => C3.out.trans (h.mono C3.out.size)) _ _ _ _ ?_
            clear C3
            try simp only [Act.put, tS1, tS2, tS3]
            refine tkO 17 (fun KK hK => ?_)
            go_simp
            refine (IT2.out x2 (.slice none 0 0) Y27x3 X2.out (VF.out Y27x3)).mono ?_
            rintro e Y27x4 ⟨rfl, hy⟩
            have E4 := Lib.hid (E3.out.trans (hy.mono E3.out.size))
            have C4 := Lib.hid hy
            clear X2
            clear hy E3
            refine hK.out _ _ C4.out (fun _ => ?_)
            clear hK KK
            refine wpAnyH_mono (S' := (fun w' : World => Below Y27x4.heap.size Y27x4 w')) (fun w1 h => C4.out.trans (h.mono C4.out.size)) _ _ _ _ ?_
            clear C4
            try simp only [Act.put, tS1, tS2, tS3]
            refine tkA 18 (?_) ?_ (Below.refl _ _) ?_
            rotate_left
            · (intro w1 hS; go_simp; try with_reducible rfl)
            simp only [Act.put, tS1, tS2, tS3]
            refine tkA 19 (?_) ?_ (Below.refl _ _) ?_
            rotate_left
            · (intro w1 hS; go_simp; try with_reducible rfl)
            simp only [Act.put, tS1, tS2, tS3]
            refine tkA 20 (?_) ?_ (Below.refl _ _) ?_
            rotate_left
            · (intro w1 hS; go_simp; try with_reducible rfl)
            simp only [Act.put, tS1, tS2, tS3]
            refine tkA 22 (?_) ?_ (Below.refl _ _) ?_
            rotate_left
            · (intro w1 hS; go_simp; try with_reducible rfl)
            simp only [Act.put, tS1, tS2, tS3]
            refine tkA 23 (?_) ?_ (Below.refl _ _) ?_
            rotate_left
            · (intro w1 hS; go_simp; try with_reducible rfl)
            simp only [Act.put, tS1, tS2, tS3]
            refine tkA 24 (?_) ?_ (Below.refl _ _) ?_
            rotate_left
            · (intro w1 hS; go_simp; try with_reducible rfl)
            simp only [Act.put, tS1, tS2, tS3]
            refine tkA 25 (?_) ?_ (Below.refl _ _) ?_
            rotate_left
            · (intro w1 hS; have hW := E4.out.trans (hS.mono E4.out.size); have q := ((Rb.out.below hW Rb.out.lt).cell 49).trans RGv.out; clear hW hS; go_simp; try with_reducible rfl)
            simp only [Act.put, tS1, tS2, tS3]
            refine tkA 26 (?_) ?_ (Below.refl _ _) ?_
            rotate_left
            · (intro w1 hS; go_simp; try with_reducible rfl)
            simp only [Act.put, tS1, tS2, tS3]
            refine tkO 21 (fun KK hK => ?_)
            go_simp
            refine (CC1.out Y27x4 (Sr.out.below E4.out)).mono ?_
            rintro e Y27x5 ⟨rfl, hy⟩
            have E5 := Lib.hid (E4.out.trans (hy.mono E4.out.size))
            have C5 := Lib.hid hy
            clear hy E4
            refine hK.out _ _ C5.out (fun _ => ?_)
            clear hK KK
            refine wpAnyH_mono (S' := (fun w' : World => Below Y27x5.heap.size Y27x5 w')) (fun w1 h => C5.out.trans (h.mono C5.out.size)) _ _ _ _ ?_
            clear C5
            try simp only [Act.put, tS1, tS2, tS3]
            refine tkA 27 (?_) ?_ (Below.refl _ _) ?_
            rotate_left
            · (intro w1 hS; go_simp; try with_reducible rfl)
            simp only [Act.put, tS1, tS2, tS3]
            refine tkA 28 (?_) ?_ (Below.refl _ _) ?_
            rotate_left
            · (intro w1 hS; go_simp; try with_reducible rfl)
            simp only [Act.put, tS1, tS2, tS3]
            refine tkA 29 (?_) ?_ (Below.refl _ _) ?_
            rotate_left
            · (intro w1 hS; go_simp; try with_reducible rfl)
            simp only [Act.put, tS1, tS2, tS3]
            refine tkO 30 (fun KK hK => ?_)
            go_simp
            refine (AW.out Y27x5 (EW.out.below E5.out EW.out.lt)).mono ?_
            rintro e Y27x6 ⟨rfl, hy⟩
            have E6 := Lib.hid (E5.out.trans (hy.mono E5.out.size))
            have C6 := Lib.hid hy
            clear hy E5
            refine hK.out _ _ C6.out (fun _ => ?_)
            clear hK KK
            refine wpAnyH_mono (S' := (fun w' : World => Below Y27x6.heap.size Y27x6 w')) (fun w1 h => C6.out.trans (h.mono C6.out.size)) _ _ _ _ ?_
            clear C6
            try simp only [Act.put, tS1, tS2, tS3]
            refine tkA 31 (?_) ?_ (Below.refl _ _) ?_
            rotate_left
            · (intro w1 hS; go_simp; try with_reducible rfl)
            simp only [Act.put, tS1, tS2, tS3]
            refine tkA 32 (?_) ?_ (Below.refl _ _) ?_
            rotate_left
            · (intro w1 hS; go_simp; try with_reducible rfl)
            simp only [Act.put, tS1, tS2, tS3]
            refine wpAnyH_done (by kernel_rfl) ?_ _
            have hy := E6.out
            replace Sr := Lib.hid (Sr.out.below hy)
            replace Kr := Lib.hid (Kr.out.trans (hy.mono Kr.out.size))
            replace Rb := Lib.hid (Rb.out.below hy Rb.out.lt)
            replace Vr := Lib.hid (row_under Vr.out hy)
            replace EW := Lib.hid (EW.out.below hy EW.out.lt)
            clear hy E6
            go_wp2
            go_ret
            exact ⟨rfl, Kr.out⟩
          · have hlc : h ≤ cap := by omega
            clear hn hh
            have L9 := (Rb.out.cell 49).trans RGv.out
            go_wp2_with fail
            clear L9
            refine wp_region_held (S := (fun w' : World => Below (wr.heap.size) wr w')) (by kernel_rfl) ?_
            change wpAnyH _ _ _ _ _ _ _ _ wr.drew
            have hy : Below wr.heap.size wr wr.drew := (Below.refl _ _).drew
            have hE0 : Below (wr.heap.size) wr wr.drew := (Below.refl _ _).drew
            clear hy
            generalize wr.drew = Y27x0 at hE0  ⊢
            have E0 := Lib.hid hE0
            clear hE0
            refine tkA 0 (?_) ?_ E0.out ?_
            rotate_left
            · (intro w1 hS; go_simp; try with_reducible rfl)
            simp only [Act.put, tS1, tS2, tS3]
            refine tkA 2 (?_) ?_ E0.out ?_
            rotate_left
            · (intro w1 hS; go_simp; try with_reducible rfl)
            simp only [Act.put, tS1, tS2, tS3]
            refine tkA 3 (?_) ?_ E0.out ?_
            rotate_left
            · (intro w1 hS; go_simp; try with_reducible rfl)
            simp only [Act.put, tS1, tS2, tS3]
            refine tkA 4 (?_) ?_ E0.out ?_
            rotate_left
            · (intro w1 hS; go_simp; try with_reducible rfl)
            simp only [Act.put, tS1, tS2, tS3]
            refine tkA 5 (?_) ?_ E0.out ?_
            rotate_left
            · (intro w1 hS; have hW := hS; have q := ((Rb.out.below hW Rb.out.lt).cell 49).trans RGv.out; clear hW hS; go_simp; try with_reducible rfl)
            simp only [Act.put, tS1, tS2, tS3]
            refine tkO 1 (fun KK hK => ?_)
            go_simp
            refine (CO1.out Y27x0 (Sr.out.below E0.out)).mono ?_
            rintro e Y27x1 ⟨x1, rfl, hx, hy⟩
            have E1 := Lib.hid (E0.out.trans (hy.mono E0.out.size))
            have C1 := Lib.hid E1.out
            have X1 := Lib.hid (Rd.own hx)
            clear hx
            clear hy E0
            refine hK.out _ _ C1.out (fun _ => ?_)
            clear hK KK
            refine wpAnyH_mono (S' := (fun w' : World => Below Y27x1.heap.size Y27x1 w')) (fun w1 h => C1.out.trans (h.mono C1.out.size)) _ _ _ _ ?_
            clear C1
            try simp only [Act.put, tS1, tS2, tS3]
            refine tkO 6 (fun KK hK => ?_)
            go_simp
            refine (IT1.out x1 (.slice (some ⟨g, 0, none⟩) n cap) Y27x1 X1.out ((Rd.own Vr.out).below E1.out)).mono ?_
            rintro e Y27x2 ⟨rfl, hy⟩
            have E2 := Lib.hid (E1.out.trans (hy.mono E1.out.size))
            have C2 := Lib.hid hy
            clear X1
            clear hy E1
            refine hK.out _ _ C2.out (fun _ => ?_)
            clear hK KK
            refine wpAnyH_mono (S' := (fun w' : World => Below Y27x2.heap.size Y27x2 w')) (fun w1 h => C2.out.trans (h.mono C2.out.size)) _ _ _ _ ?_
            clear C2
            try simp only [Act.put, tS1, tS2, tS3]
            refine tkA 7 (?_) ?_ (Below.refl _ _) ?_
            rotate_left
            · (intro w1 hS; go_simp; try with_reducible rfl)
            simp only [Act.put, tS1, tS2, tS3]
            refine tkA 8 (?_) ?_ (Below.refl _ _) ?_
            rotate_left
            · (intro w1 hS; go_simp; try with_reducible rfl)
            simp only [Act.put, tS1, tS2, tS3]
            refine tkA 9 (?_) ?_ (Below.refl _ _) ?_
            rotate_left
            · (intro w1 hS; go_simp; try with_reducible rfl)
            simp only [Act.put, tS1, tS2, tS3]
            refine tkA 11 (?_) ?_ (Below.refl _ _) ?_
            rotate_left
            · (intro w1 hS; go_simp; try with_reducible rfl)
            simp only [Act.put, tS1, tS2, tS3]
            refine tkA 12 (?_) ?_ (Below.refl _ _) ?_
            rotate_left
            · (intro w1 hS; go_simp; try with_reducible rfl)
            simp only [Act.put, tS1, tS2, tS3]
            refine tkA 13 (?_) ?_ (Below.refl _ _) ?_
            rotate_left
            · (intro w1 hS; go_simp; try with_reducible rfl)
            simp only [Act.put, tS1, tS2, tS3]
            refine tkA 14 (?_) ?_ (Below.refl _ _) ?_
            rotate_left
            · (intro w1 hS; have hW := E2.out.trans (hS.mono E2.out.size); have q := ((Rb.out.below hW Rb.out.lt).cell 49).trans RGv.out; clear hW hS; go_simp; try with_reducible rfl)
            simp only [Act.put, tS1, tS2, tS3]
            refine tkA 15 (?_) ?_ (Below.refl _ _) ?_
            rotate_left
            · (intro w1 hS; go_simp; try with_reducible rfl)
            simp only [Act.put, tS1, tS2, tS3]
            refine tkA 16 (?_) ?_ (Below.refl _ _) ?_
            rotate_left
            · (intro w1 hS; have hW := E2.out.trans (hS.mono E2.out.size); have q : (h : Int) ≤ (cap : Int) := (by omega); clear hW hS; go_simp; try with_reducible rfl)
            simp only [Act.put, tS1, tS2, tS3]
            refine tkO 10 (fun KK hK => ?_)
            go_simp
            refine (CO2.out Y27x2 (Sr.out.below E2.out)).mono ?_
            rintro e Y27x3 ⟨x2, rfl, hx, hy⟩
            have E3 := Lib.hid (E2.out.trans (hy.mono E2.out.size))
            have C3 := Lib.hid hy
            have X2 := Lib.hid (Rd.own hx)
            clear hx
            clear hy E2
            refine hK.out _ _ C3.out (fun _ => ?_)
            clear hK KK
            refine wpAnyH_mono (S' := (fun w' : World => Below Y27x3.heap.size Y27x3 w')) (fun w1 h => C3.out.trans (h.mono C3.out.size)) _ _ _ _ ?_
            clear C3
            try simp only [Act.put, tS1, tS2, tS3]
            refine tkO 17 (fun KK hK => ?_)
            go_simp
            refine (IT2.out x2 (.slice (some ⟨g, 0, none⟩) h cap) Y27x3 X2.out (((Rd.own Vr.out).below E3.out).front h (by have := HNB.out; omega))).mono ?_
            rintro e Y27x4 ⟨rfl, hy⟩
            have E4 := Lib.hid (E3.out.trans (hy.mono E3.out.size))
            have C4 := Lib.hid hy
            clear X2
            clear hy E3
            refine hK.out _ _ C4.out (fun _ => ?_)
            clear hK KK
            refine wpAnyH_mono (S' := (fun w' : World => Below Y27x4.heap.size Y27x4 w')) (fun w1 h => C4.out.trans (h.mono C4.out.size)) _ _ _ _ ?_
            clear C4
            try simp only [Act.put, tS1, tS2, tS3]
            refine tkA 18 (?_) ?_ (Below.refl _ _) ?_
            rotate_left
            · (intro w1 hS; go_simp; try with_reducible rfl)
            simp only [Act.put, tS1, tS2, tS3]
            refine tkA 19 (?_) ?_ (Below.refl _ _) ?_
            rotate_left
            · (intro w1 hS; go_simp; try with_reducible rfl)
            simp only [Act.put, tS1, tS2, tS3]
            refine tkA 20 (?_) ?_ (Below.refl _ _) ?_
            rotate_left
            · (intro w1 hS; go_simp; try with_reducible rfl)
            simp only [Act.put, tS1, tS2, tS3]
            refine tkA 22 (?_) ?_ (Below.refl _ _) ?_
            rotate_left
            · (intro w1 hS; go_simp; try with_reducible rfl)
            simp only [Act.put, tS1, tS2, tS3]
            refine tkA 23 (?_) ?_ (Below.refl _ _) ?_
            rotate_left
            · (intro w1 hS; go_simp; try with_reducible rfl)
            simp only [Act.put, tS1, tS2, tS3]
            refine tkA 24 (?_) ?_ (Below.refl _ _) ?_
            rotate_left
            · (intro w1 hS; go_simp; try with_reducible rfl)
            simp only [Act.put, tS1, tS2, tS3]
            refine tkA 25 (?_) ?_ (Below.refl _ _) ?_
            rotate_left
            · (intro w1 hS; have hW := E4.out.trans (hS.mono E4.out.size); have q := ((Rb.out.below hW Rb.out.lt).cell 49).trans RGv.out; clear hW hS; go_simp; try with_reducible rfl)
            simp only [Act.put, tS1, tS2, tS3]
            refine tkA 26 (?_) ?_ (Below.refl _ _) ?_
            rotate_left
            · (intro w1 hS; go_simp; try with_reducible rfl)
            simp only [Act.put, tS1, tS2, tS3]
            refine tkO 21 (fun KK hK => ?_)
            go_simp
            refine (CC1.out Y27x4 (Sr.out.below E4.out)).mono ?_
            rintro e Y27x5 ⟨rfl, hy⟩
            have E5 := Lib.hid (E4.out.trans (hy.mono E4.out.size))
            have C5 := Lib.hid hy
            clear hy E4
            refine hK.out _ _ C5.out (fun _ => ?_)
            clear hK KK
            refine wpAnyH_mono (S' := (fun w' : World => Below Y27x5.heap.size Y27x5 w')) (fun w1 h => C5.out.trans (h.mono C5.out.size)) _ _ _ _ ?_
            clear C5
            try simp only [Act.put, tS1, tS2, tS3]
            refine tkA 27 (?_) ?_ (Below.refl _ _) ?_
            rotate_left
            · (intro w1 hS; go_simp; try with_reducible rfl)
            simp only [Act.put, tS1, tS2, tS3]
            refine tkA 28 (?_) ?_ (Below.refl _ _) ?_
            rotate_left
            · (intro w1 hS; go_simp; try with_reducible rfl)
            simp only [Act.put, tS1, tS2, tS3]
            refine tkA 29 (?_) ?_ (Below.refl _ _) ?_
            rotate_left
            · (intro w1 hS; go_simp; try with_reducible rfl)
            simp only [Act.put, tS1, tS2, tS3]
            refine tkO 30 (fun KK hK => ?_)
            go_simp
            refine (AW.out Y27x5 (EW.out.below E5.out EW.out.lt)).mono ?_
            rintro e Y27x6 ⟨rfl, hy⟩
            have E6 := Lib.hid (E5.out.trans (hy.mono E5.out.size))
            have C6 := Lib.hid hy
            clear hy E5
            refine hK.out _ _ C6.out (fun _ => ?_)
            clear hK KK
            refine wpAnyH_mono (S' := (fun w' : World => Below Y27x6.heap.size Y27x6 w')) (fun w1 h => C6.out.trans (h.mono C6.out.size)) _ _ _ _ ?_
            clear C6
            try simp only [Act.put, tS1, tS2, tS3]
            refine tkA 31 (?_) ?_ (Below.refl _ _) ?_
            rotate_left
            · (intro w1 hS; go_simp; try with_reducible rfl)
            simp only [Act.put, tS1, tS2, tS3]
            refine tkA 32 (?_) ?_ (Below.refl _ _) ?_
            rotate_left
            · (intro w1 hS; go_simp; try with_reducible rfl)
            simp only [Act.put, tS1, tS2, tS3]
            refine wpAnyH_done (by kernel_rfl) ?_ _
            have hy := E6.out
            replace Sr := Lib.hid (Sr.out.below hy)
            replace Kr := Lib.hid (Kr.out.trans (hy.mono Kr.out.size))
            replace Rb := Lib.hid (Rb.out.below hy Rb.out.lt)
            replace Vr := Lib.hid (row_under Vr.out hy)
            replace EW := Lib.hid (EW.out.below hy EW.out.lt)
            clear hy E6
            go_wp2
            go_ret
            exact ⟨rfl, Kr.out⟩
end Go.Proofs.YtcgaibkpdihncaaDoor
