/- Texts that the walks of this seat lean on, put together. -/
import Derived.Deep.CutBlock
import Derived.Deep.DeepCutAuto
import Derived.LoopTactic
import Derived.Handy
import Derived.Test.YtblkpnjmmdbgnaaTk
import Derived.Test.YtblkpnjmmdbgnaaM35
import Derived.Test.YtblkpnjmmdbgnaaM36
import Derived.Test.YtblkpnjmmdbgnaaM38
import Derived.Test.YtblkpnjmmdbgnaaM42
import Derived.Test.YtblkpnjmmdbgnaaM44
namespace Go.Proofs.Ytblkpnjmmdbgnaa
open Go.RowKit Go.Lib
theorem wrap_powI (d : Nat) (h : d ≤ 16) : IntKind.i64.wrap (2 ^ min d 64) = ((2 ^ d : Nat) : Int) := by
  have hp := (pow16 d h).2
  have e : (2 : Int) ^ d = ((2 ^ d : Nat) : Int) := by simp
  rw [Nat.min_eq_left (by omega), e]
  generalize 2 ^ d = p at *
  rw [IntKind.wrap_i64]; omega
set_option maxRecDepth 100000 in
set_option maxHeartbeats 4000000 in
theorem within_long (va : Value) (zs : List Int) (n : Int) (v6 udp : Bool) (mm : Int) (hl : ¬ zs.length ≤ 30) (w : World) (hv : Rd w va (ivs zs)) :
    Calls Try.prog 4 #[va, .int .i64 n, .bool v6, .bool udp, .int .i64 mm] w fun e w' => e = .returned (.bool true) ∧ Below w.heap.size w w' := by
  have CA := Lib.hid (fun W => awake_any W)
  obtain ⟨a, cap, rfl, -, -⟩ := rdI_shape hv
  generalize zs.length = l at *
  have g1 : decide ((l : Int) > 30) = true := decide_eq_true (by omega)
  have g3 : 30 < l := by omega
  clear hv hl
  go_enter Try.func4, Try.ntmps4
  go_wp2_with fail
  refine (CA.out _).mono ?_
  rintro e w' ⟨rfl, hy⟩
  go_wp2
  go_ret
  exact ⟨rfl, hy⟩
set_option maxRecDepth 100000 in
set_option maxHeartbeats 4000000 in
theorem within_low (va : Value) (zs : List Int) (n : Int) (v6 udp : Bool) (mm : Int) (hl : zs.length ≤ 30) (h1 : mm < 1) (w : World) (hv : Rd w va (ivs zs)) :
    Calls Try.prog 4 #[va, .int .i64 n, .bool v6, .bool udp, .int .i64 mm] w fun e w' => e = .returned (.bool true) ∧ Below w.heap.size w w' := by
  have CA := Lib.hid (fun W => awake_any W)
  obtain ⟨a, cap, rfl, -, -⟩ := rdI_shape hv
  generalize zs.length = l at *
  have g1 : decide ((l : Int) > 30) = false := decide_eq_false (by omega)
  have g2 : ¬ 30 < l := by omega
  have d1 : decide (mm < 1) = true := decide_eq_true h1
  clear hv hl h1
  go_enter Try.func4, Try.ntmps4
  go_wp2_with fail
  refine (CA.out _).mono ?_
  rintro e w' ⟨rfl, hy⟩
  go_wp2
  go_ret
  exact ⟨rfl, hy⟩
set_option maxRecDepth 100000 in
set_option maxHeartbeats 4000000 in
theorem within_high (va : Value) (zs : List Int) (n : Int) (v6 udp : Bool) (mm : Int) (hl : zs.length ≤ 30) (h1 : ¬ mm < 1) (h2 : mm > 64) (w : World) (hv : Rd w va (ivs zs)) :
    Calls Try.prog 4 #[va, .int .i64 n, .bool v6, .bool udp, .int .i64 mm] w fun e w' => e = .returned (.bool true) ∧ Below w.heap.size w w' := by
  have CA := Lib.hid (fun W => awake_any W)
  obtain ⟨a, cap, rfl, -, -⟩ := rdI_shape hv
  generalize zs.length = l at *
  have g1 : decide ((l : Int) > 30) = false := decide_eq_false (by omega)
  have g2 : ¬ 30 < l := by omega
  have d1 : decide (mm < 1) = false := decide_eq_false h1
  have d2 : decide (mm > 64) = true := decide_eq_true h2
  clear hv hl h1 h2
  go_enter Try.func4, Try.ntmps4
  go_wp2_with fail
  refine (CA.out _).mono ?_
  rintro e w' ⟨rfl, hy⟩
  go_wp2
  go_ret
  exact ⟨rfl, hy⟩
set_option maxRecDepth 100000 in
set_option maxHeartbeats 4000000 in
theorem within_in (va : Value) (zs : List Int) (n : Int) (v6 udp : Bool) (mm : Int) (hl : zs.length ≤ 30) (h1 : ¬ mm < 1) (h2 : ¬ mm > 64) (w : World) (hv : Rd w va (ivs zs)) :
    Calls Try.prog 4 #[va, .int .i64 n, .bool v6, .bool udp, .int .i64 mm] w fun e w' => e = .returned (.bool true) ∧ Below w.heap.size w w' := by
  have K := Lib.hid (Below.refl w.heap.size w)
  obtain ⟨ZC, hZC⟩ : ∃ Z, Z = cf0.cs := ⟨_, rfl⟩
  have z27 : ∀ W, (zeroValue 27).run Try.prog W = .ok (.agg ZC) W := by rw [hZC]; exact zero27
  have hZS : ZC.size = 48 := by rw [hZC]; exact cf_size _ cf0_fit
  obtain ⟨ZK, hZK⟩ : ∃ Z, Z = k0.cs := ⟨_, rfl⟩
  have z31 : ∀ W, (zeroValue 31).run Try.prog W = .ok (.agg ZK) W := by rw [hZK]; exact zero31
  have hZKS : ZK.size = 37 := by rw [hZK]; exact Fl.cs_size _ k0_fit
  have Z31 := Lib.hid z31
  clear hZC hZK z31
  have CF := Lib.hid (fun W h => config_any va zs W h)
  have CA := Lib.hid (fun W => awake_any W)
  have CK := Lib.hid (fun W => flow_any n v6 udp W)
  obtain ⟨c, hcz⟩ : ∃ c, c = cfg zs := ⟨_, rfl⟩
  have hc : c.Fit := by rw [hcz]; exact cfg_fit zs
  have hok : okC c = true := by rw [hcz]; exact cfg_ok zs
  obtain ⟨k, hk0⟩ : ∃ k, k = kflow n v6 udp := ⟨_, rfl⟩
  have hk : k.Fit := by rw [hk0]; exact kflow_fit _ _ _
  have hvk : vK k = true := by rw [hk0]; exact kflow_vK _ _ _
  rw [← hcz] at CF
  rw [← hk0] at CK
  clear hcz hk0
  obtain ⟨b1, b2⟩ := okC_st hok
  obtain ⟨b3, b4⟩ := okC_sz hok
  obtain ⟨b5, b6⟩ := okC_dg hok
  obtain ⟨b7, b8⟩ := okC_bl hok
  obtain ⟨b9, b10⟩ := okC_hs hok
  obtain ⟨s, hs⟩ : ∃ s : Nat, c.st = (s : Int) := ⟨c.st.toNat, by omega⟩
  obtain ⟨z, hz⟩ : ∃ s : Nat, c.sz = (s : Int) := ⟨c.sz.toNat, by omega⟩
  obtain ⟨d, hd⟩ : ∃ s : Nat, c.dg = (s : Int) := ⟨c.dg.toNat, by omega⟩
  obtain ⟨b, hb⟩ : ∃ s : Nat, c.bl = (s : Int) := ⟨c.bl.toNat, by omega⟩
  obtain ⟨h, hh⟩ : ∃ s : Nat, c.hs = (s : Int) := ⟨c.hs.toNat, by omega⟩
  obtain ⟨m, rfl⟩ : ∃ m : Nat, mm = (m : Int) := ⟨mm.toNat, by omega⟩
  have CN := Lib.hid (fun W => new_yes c hc hok W)
  have CL := Lib.hid (fun g W hF => all_n c hc hok k hk hvk g (-1) c.st.toNat (by omega) (Nat.le_refl _) (cut_all c k hvk) W hF)
  rw [show c.st.toNat = s by omega] at CL
  have CD := Lib.hid (fun g W hF => digest_yes c hc hok k hk hvk g W hF)
  have hdp := dgN_pow c k
  rw [show c.dg.toNat = d by omega] at hdp
  have hw := wrap_pow16 d (by omega)
  have p2 := (pow16 d (by omega)).2
  have hw2 := wrap_powI d (by omega)
  have hw3 : IntKind.i64.wrap (1 * 2 ^ min d 64) = ((2 ^ d : Nat) : Int) := by rw [Int.one_mul]; exact hw2
  have CS := Lib.hid (fun g W hF => slot_yes c hc k hk hvk g (m : Int) (by omega) (by omega) W hF)
  have hsl := slN_lt c k m (by omega)
  have CB := Lib.hid (fun g W hF => bits_yes c hc hok k hk hvk g W hF)
  rw [show c.hs.toNat = h by omega] at CB
  have hbl : (btL c k h).length = h := btL_len c k h
  have hbb := fun i (hi : i < h) => btL_bl c k hok h i hi
  rw [show c.bl.toNat = b by omega] at hbb
  have CI := Lib.hid (fun x y W h1 h2 => ints_any x y (btL c k h) W h1 h2 (by rw [hbl]; omega))
  have hpz := fun i => plN_sz c k hok i
  rw [show c.sz.toNat = z by omega] at hpz
  have EQ := Lib.hid (fun i (hi : i < s) W => eq_place i (plN c k i) (by omega) (plN_lt c k i hok) W)
  have LD := Lib.hid (fun g i cur W hb h0 h1 => load_at W g i (plN c k i) cur hb h0 h1)
  obtain ⟨f, hf⟩ : ∃ f : Nat → Nat, f = fun i => plN c k i := ⟨_, rfl⟩
  have hf2 : ∀ i, plN c k i = f i := fun i => by rw [hf]
  simp only [hf2] at CL hpz EQ LD
  have RY := Lib.hid (show c.cs.size = ZC.size from by rw [cf_size _ hc, hZS])
  have RZ := Lib.hid (cf_ic _ hc)
  have RA := Lib.hid (cf_all c)
  have KY := Lib.hid (show k.cs.size = ZK.size from by rw [Fl.cs_size _ hk, hZKS])
  have KZ := Lib.hid (fl_ik k hk)
  have KA := Lib.hid (Fl.cs_all k)
  obtain ⟨q0, q1, q2, q3, q4, -⟩ := cf_get c hc
  rw [hs] at q0
  rw [hz] at q1
  rw [hd] at q2
  rw [hb] at q3
  rw [hh] at q4
  have Q0 := Lib.hid q0
  have Q1 := Lib.hid q1
  have Q2 := Lib.hid q2
  have Q3 := Lib.hid q3
  have Q4 := Lib.hid q4
  have HPZ := Lib.hid hpz
  have HBB := Lib.hid hbb
  have HBL := Lib.hid hbl
  generalize btL c k h = BL at *
  generalize dgN c k = dv at *
  generalize slN c k m = sl at *
  generalize famC c = fc at *
  generalize c.cs = cc at *
  generalize k.cs = kc at *
  generalize (2 : Nat) ^ d = P2 at *
  have e1 : ((dv : Int) != (dv : Int)) = false := by simp
  have e2 : ((sl : Int) != (sl : Int)) = false := by simp
  have e3 : ((s : Int) != (s : Int)) = false := by simp
  have e4 : decide ((dv : Int) ≥ (P2 : Int)) = false := decide_eq_false (by omega)
  have e4b : ¬ P2 ≤ dv := by omega
  have e5 : decide ((sl : Int) < 0) = false := decide_eq_false (by omega)
  have e6 : decide ((sl : Int) ≥ (m : Int)) = false := decide_eq_false (by omega)
  have e6b : ¬ m ≤ sl := by omega
  have e7 : ((h : Int) == (h : Int)) = true := by simp
  have e8 : decide ((d : Int) < 0) = false := decide_eq_false (by omega)
  have hs14 : 1 ≤ s ∧ s ≤ 4 := by omega
  have hh14 : 1 ≤ h ∧ h ≤ 4 := by omega
  have d1 : decide ((m : Int) < 1) = false := decide_eq_false h1
  have d2 : decide ((m : Int) > 64) = false := decide_eq_false h2
  have d3 : ¬ m < 1 := by omega
  have d4 : ¬ 64 < m := by omega
  have wdv : IntKind.i64.wrap (dv : Int) = (dv : Int) := by rw [IntKind.wrap_i64]; omega
  have HV := Lib.hid hv
  obtain ⟨a, cap, rfl, -, -⟩ := rdI_shape hv
  obtain ⟨l, hm⟩ : ∃ l, l = zs.length := ⟨_, rfl⟩
  rw [← hm] at HV CF hl ⊢
  have g1 : decide ((l : Int) > 30) = false := decide_eq_false (by omega)
  have g2 : ¬ 30 < l := by omega
  clear hv hl hm b1 b2 b3 b4 b5 b6 b7 b8 b9 b10 hs hz hd hb hh hc hok hk hvk hdp hsl hbl hbb hpz hf hf2 q0 q1 q2 q3 q4 hZS hZKS h1 h2 p2
  go_enter Try.func4, Try.ntmps4
  go_wp2_with fail
  refine (CF.out w (HV.out.below K.out)).mono ?_
  rintro e V1 ⟨rfl, hy⟩
  replace K := Lib.hid (K.out.trans (hy.mono K.out.size))
  clear hy
  go_wp2_with (((with_reducible refine wpList_blk_store (op := ⟨none, .store 27 (.tmp 11) (.tmp 35), _, _, _, _⟩) ?sg1 27 (.tmp 11) (.tmp 35) ?so1 (V1.heap.size) cc ?sx1 ?sy1 (Blk.new V1 27 ZC) RY.out RZ.out RA.out ?_); (case sg1 => rfl); (case so1 => rfl); (case sx1 => rfl); (case sy1 => rfl)))
  intro V2 hA hF hB
  have hy := ((Below.refl V1.heap.size V1).alloc (Nat.le_refl _) (.cells ZC 27)).trans (hB _ (Nat.le_refl _))
  replace K := Lib.hid (K.out.trans (hy.mono K.out.size))
  have C := Lib.hid hA
  clear hA hF hB hy
  clear z27
  obtain ⟨gC, hg⟩ : ∃ g, g = V1.heap.size := ⟨_, rfl⟩
  rw [← hg] at C ⊢
  clear hg
  have L2 : (loadVar 27 ⟨gC, 0, none⟩).run Try.prog V2 = .ok (.agg cc) V2 := run_blk_load (P := Try.prog) 27 (gC) _ C.out Try.underlying27 rfl RZ.out
  replace L2 := Lib.hid L2
  go_wp2_with (((with_reducible refine wpList_load_want (op := ⟨some 37, .load 27 (.tmp 11), _, _, _, _⟩) ?wg2 27 (.tmp 11) ?wo2 ⟨gC, 0, none⟩ ?wx2 (.agg cc) L2.out ?_); (case wg2 => rfl); (case wo2 => rfl); (case wx2 => rfl)))
  clear L2
  refine (CN.out V2).mono ?_
  rintro e V3 ⟨⟨gF, rfl, qF, hF⟩, hy⟩
  replace K := Lib.hid (K.out.trans (hy.mono K.out.size))
  replace C := Lib.hid (C.out.below hy C.out.lt)
  have F := Lib.hid (hF)
  clear hF qF
  clear hy
  have L3 : (loadVar 27 ⟨gC, 0, none⟩).run Try.prog V3 = .ok (.agg cc) V3 := run_blk_load (P := Try.prog) 27 (gC) _ C.out Try.underlying27 rfl RZ.out
  replace L3 := Lib.hid L3
  go_wp2_with (((with_reducible refine wpList_load_want (op := ⟨some 42, .load 27 (.tmp 11), _, _, _, _⟩) ?wg3 27 (.tmp 11) ?wo3 ⟨gC, 0, none⟩ ?wx3 (.agg cc) L3.out ?_); (case wg3 => rfl); (case wo3 => rfl); (case wx3 => rfl)))
  clear L3
  refine (CN.out V3).mono ?_
  rintro e V4 ⟨⟨gG, rfl, qG, hF⟩, hy⟩
  replace K := Lib.hid (K.out.trans (hy.mono K.out.size))
  replace C := Lib.hid (C.out.below hy C.out.lt)
  replace F := Lib.hid (F.out.below hy F.out.lt)
  have G := Lib.hid (hF)
  clear hF qG
  clear hy
  have z31 := Z31.out
  go_wp2_with fail
  refine (CK.out V4).mono ?_
  rintro e V5 ⟨rfl, hy⟩
  replace K := Lib.hid (K.out.trans (hy.mono K.out.size))
  replace C := Lib.hid (C.out.below hy C.out.lt)
  replace F := Lib.hid (F.out.below hy F.out.lt)
  replace G := Lib.hid (G.out.below hy G.out.lt)
  clear hy
  go_wp2_with (((with_reducible refine wpList_blk_store (op := ⟨none, .store 31 (.tmp 16) (.tmp 63), _, _, _, _⟩) ?sg4 31 (.tmp 16) (.tmp 63) ?so4 (V5.heap.size) kc ?sx4 ?sy4 (Blk.new V5 31 ZK) KY.out KZ.out KA.out ?_); (case sg4 => rfl); (case so4 => rfl); (case sx4 => rfl); (case sy4 => rfl)))
  have qCN : gC < V5.heap.size := C.out.lt
  intro V6 hA hF hB
  have hy := ((Below.refl V5.heap.size V5).alloc (Nat.le_refl _) (.cells ZK 31)).trans (hB _ (Nat.le_refl _))
  replace K := Lib.hid (K.out.trans (hy.mono K.out.size))
  replace C := Lib.hid (C.out.below hy C.out.lt)
  replace F := Lib.hid (F.out.below hy F.out.lt)
  replace G := Lib.hid (G.out.below hy G.out.lt)
  have N := Lib.hid hA
  clear hA hF hB hy
  clear z31
  obtain ⟨gN, hg⟩ : ∃ g, g = V5.heap.size := ⟨_, rfl⟩
  rw [← hg] at N ⊢
  clear hg
  go_upto_region 9 with fail
  refine wp_region_held (S := (fun w' : World => Below (V6.heap.size) V6 w')) (by kernel_rfl) ?_
  change wpAnyH _ _ _ _ _ _ _ _ V6.drew
  have hy : Below V6.heap.size V6 V6.drew := (Below.refl _ _).drew
  have hE0 : Below (V6.heap.size) V6 V6.drew := (Below.refl _ _).drew
  clear hy
  generalize V6.drew = Y9x0 at hE0  ⊢
  have E0 := Lib.hid hE0
  clear hE0
  refine tkA 0 (?_) ?_ E0.out ?_
  rotate_left
  · (intro w1 hS; go_simp; try with_reducible rfl)
  simp only [Act.put, tS1, tS2, tS3]
  refine tkA 1 (.agg kc) ?_ E0.out ?_
  · (intro w1 hS; have hW := hS; exact exec_load 31 (.tmp 16) rfl _ rfl _ (run_blk_load (P := Try.prog) 31 (gN) _ (N.out.below hW N.out.lt) Try.underlying31 rfl KZ.out))
  simp only [Act.put, tS1, tS2, tS3]
  refine tkA 3 (?_) ?_ E0.out ?_
  rotate_left
  · (intro w1 hS; go_simp; try with_reducible rfl)
  simp only [Act.put, tS1, tS2, tS3]
  refine tkA 4 (.agg kc) ?_ E0.out ?_
  · (intro w1 hS; have hW := hS; exact exec_load 31 (.tmp 16) rfl _ rfl _ (run_blk_load (P := Try.prog) 31 (gN) _ (N.out.below hW N.out.lt) Try.underlying31 rfl KZ.out))
  simp only [Act.put, tS1, tS2, tS3]
  refine tkO 2 (fun KK hK => ?_)
  go_simp
  refine (CL.out gF Y9x0 (F.out.below E0.out F.out.lt)).mono ?_
  rintro e Y9x1 ⟨gX, cpX, cuX, rfl, hx, hcx, hy⟩
  have E1 := Lib.hid (E0.out.trans (hy.mono E0.out.size))
  have C1 := Lib.hid E1.out
  have X := Lib.hid (hx)
  have CX := Lib.hid hcx
  clear hx hcx
  clear hy E0
  refine hK.out _ _ C1.out (fun _ => ?_)
  clear hK KK
  refine wpAnyH_mono (S' := (fun w' : World => Below Y9x1.heap.size Y9x1 w')) (fun w1 h => C1.out.trans (h.mono C1.out.size)) _ _ _ _ ?_
  clear C1
  try simp only [Act.put, tS1, tS2, tS3]
  refine tkO 5 (fun KK hK => ?_)
  go_simp
  refine (CL.out gG Y9x1 (G.out.below E1.out G.out.lt)).mono ?_
  rintro e Y9x2 ⟨gY, cpY, cuY, rfl, hx, hcx, hy⟩
  replace X := Lib.hid (X.out.below hy X.out.lt)
  have E2 := Lib.hid (E1.out.trans (hy.mono E1.out.size))
  have C2 := Lib.hid hy
  have Y := Lib.hid (hx)
  have CY := Lib.hid hcx
  clear hx hcx
  clear hy E1
  refine hK.out _ _ C2.out (fun _ => ?_)
  clear hK KK
  refine wpAnyH_mono (S' := (fun w' : World => Below Y9x2.heap.size Y9x2 w')) (fun w1 h => C2.out.trans (h.mono C2.out.size)) _ _ _ _ ?_
  clear C2
  try simp only [Act.put, tS1, tS2, tS3]
  refine tkA 6 (?_) ?_ (Below.refl _ _) ?_
  rotate_left
  · (intro w1 hS; go_simp; try with_reducible rfl)
  simp only [Act.put, tS1, tS2, tS3]
  refine tkA 7 (?_) ?_ (Below.refl _ _) ?_
  rotate_left
  · (intro w1 hS; go_simp; try with_reducible rfl)
  simp only [Act.put, tS1, tS2, tS3]
  refine wpAnyH_done (by kernel_rfl) ?_ _
  have hy := E2.out
  replace K := Lib.hid (K.out.trans (hy.mono K.out.size))
  replace C := Lib.hid (C.out.below hy C.out.lt)
  replace F := Lib.hid (F.out.below hy F.out.lt)
  replace G := Lib.hid (G.out.below hy G.out.lt)
  replace N := Lib.hid (N.out.below hy N.out.lt)
  clear hy E2
  go_upto_region 10 with fail
  refine wp_region_held (S := (fun w' : World => Below (Y9x2.heap.size) Y9x2 w')) (by kernel_rfl) ?_
  change wpAnyH _ _ _ _ _ _ _ _ Y9x2.drew
  have hy : Below Y9x2.heap.size Y9x2 Y9x2.drew := (Below.refl _ _).drew
  have hE0 : Below (Y9x2.heap.size) Y9x2 Y9x2.drew := (Below.refl _ _).drew
  clear hy
  generalize Y9x2.drew = Y10x0 at hE0  ⊢
  have E0 := Lib.hid hE0
  clear hE0
  refine tkA 0 (?_) ?_ E0.out ?_
  rotate_left
  · (intro w1 hS; go_simp; try with_reducible rfl)
  simp only [Act.put, tS1, tS2, tS3]
  refine tkA 1 (?_) ?_ E0.out ?_
  rotate_left
  · (intro w1 hS; go_simp; try with_reducible rfl)
  simp only [Act.put, tS1, tS2, tS3]
  refine tkA 2 (?_) ?_ E0.out ?_
  rotate_left
  · (intro w1 hS; go_simp; try with_reducible rfl)
  simp only [Act.put, tS1, tS2, tS3]
  refine tkA 3 (?_) ?_ E0.out ?_
  rotate_left
  · (intro w1 hS; have hW := hS; have q := ((C.out.below hW C.out.lt).cell 0).trans Q0.out; clear hW hS; go_simp; try with_reducible rfl)
  simp only [Act.put, tS1, tS2, tS3]
  refine tkA 4 (?_) ?_ E0.out ?_
  rotate_left
  · (intro w1 hS; go_simp; try with_reducible rfl)
  simp only [Act.put, tS1, tS2, tS3]
  refine tkA 5 (?_) ?_ E0.out ?_
  rotate_left
  · (intro w1 hS; go_simp; try with_reducible rfl)
  simp only [Act.put, tS1, tS2, tS3]
  refine tkA 6 (?_) ?_ E0.out ?_
  rotate_left
  · (intro w1 hS; go_simp; try with_reducible rfl)
  simp only [Act.put, tS1, tS2, tS3]
  refine tkA 7 (?_) ?_ E0.out ?_
  rotate_left
  · (intro w1 hS; go_simp; try with_reducible rfl)
  simp only [Act.put, tS1, tS2, tS3]
  refine tkA 8 (?_) ?_ E0.out ?_
  rotate_left
  · (intro w1 hS; go_simp; try with_reducible rfl)
  simp only [Act.put, tS1, tS2, tS3]
  refine tkA 9 (?_) ?_ E0.out ?_
  rotate_left
  · (intro w1 hS; go_simp; try with_reducible rfl)
  simp only [Act.put, tS1, tS2, tS3]
  refine tkA 10 (?_) ?_ E0.out ?_
  rotate_left
  · (intro w1 hS; go_simp; try with_reducible rfl)
  simp only [Act.put, tS1, tS2, tS3]
  refine tkA 11 (?_) ?_ E0.out ?_
  rotate_left
  · (intro w1 hS; go_simp; try with_reducible rfl)
  simp only [Act.put, tS1, tS2, tS3]
  refine tkA 12 (?_) ?_ E0.out ?_
  rotate_left
  · (intro w1 hS; go_simp; try with_reducible rfl)
  simp only [Act.put, tS1, tS2, tS3]
  refine tkA 13 (?_) ?_ E0.out ?_
  rotate_left
  · (intro w1 hS; go_simp; try with_reducible rfl)
  simp only [Act.put, tS1, tS2, tS3]
  refine tkA 14 (.agg kc) ?_ E0.out ?_
  · (intro w1 hS; have hW := hS; exact exec_load 31 (.tmp 16) rfl _ rfl _ (run_blk_load (P := Try.prog) 31 (gN) _ (N.out.below hW N.out.lt) Try.underlying31 rfl KZ.out))
  simp only [Act.put, tS1, tS2, tS3]
  refine tkA 17 (?_) ?_ E0.out ?_
  rotate_left
  · (intro w1 hS; go_simp; try with_reducible rfl)
  simp only [Act.put, tS1, tS2, tS3]
  refine tkA 18 (?_) ?_ E0.out ?_
  rotate_left
  · (intro w1 hS; have hW := hS; have q := ((C.out.below hW C.out.lt).cell 2).trans Q2.out; clear hW hS; go_simp; try with_reducible rfl)
  simp only [Act.put, tS1, tS2, tS3]
  refine tkA 19 (?_) ?_ E0.out ?_
  rotate_left
  · (intro w1 hS; go_simp; try with_reducible rfl)
  simp only [Act.put, tS1, tS2, tS3]
  refine tkO 15 (fun KK hK => ?_)
  go_simp
  refine (CD.out gF Y10x0 (F.out.below E0.out F.out.lt)).mono ?_
  rintro e Y10x1 ⟨rfl, hy⟩
  have E1 := Lib.hid (E0.out.trans (hy.mono E0.out.size))
  have C1 := Lib.hid E1.out
  clear hy E0
  refine hK.out _ _ C1.out (fun _ => ?_)
  clear hK KK
  refine wpAnyH_mono (S' := (fun w' : World => Below Y10x1.heap.size Y10x1 w')) (fun w1 h => C1.out.trans (h.mono C1.out.size)) _ _ _ _ ?_
  clear C1
  try simp only [Act.put, tS1, tS2, tS3]
  refine tkA 16 (?_) ?_ (Below.refl _ _) ?_
  rotate_left
  · (intro w1 hS; go_simp; try with_reducible rfl)
  simp only [Act.put, tS1, tS2, tS3]
  refine tkA 20 (?_) ?_ (Below.refl _ _) ?_
  rotate_left
  · (intro w1 hS; go_simp; try with_reducible rfl)
  simp only [Act.put, tS1, tS2, tS3]
  refine tkA 21 (?_) ?_ (Below.refl _ _) ?_
  rotate_left
  · (intro w1 hS; go_simp; try with_reducible rfl)
  simp only [Act.put, tS1, tS2, tS3]
  refine tkA 22 (?_) ?_ (Below.refl _ _) ?_
  rotate_left
  · (intro w1 hS; go_simp; try with_reducible rfl)
  simp only [Act.put, tS1, tS2, tS3]
  refine tkA 23 (?_) ?_ (Below.refl _ _) ?_
  rotate_left
  · (intro w1 hS; go_simp; try with_reducible rfl)
  simp only [Act.put, tS1, tS2, tS3]
  refine tkA 24 (.agg kc) ?_ (Below.refl _ _) ?_
  · (intro w1 hS; have hW := E1.out.trans (hS.mono E1.out.size); exact exec_load 31 (.tmp 16) rfl _ rfl _ (run_blk_load (P := Try.prog) 31 (gN) _ (N.out.below hW N.out.lt) Try.underlying31 rfl KZ.out))
  simp only [Act.put, tS1, tS2, tS3]
  refine tkA 26 (?_) ?_ (Below.refl _ _) ?_
  rotate_left
  · (intro w1 hS; go_simp; try with_reducible rfl)
  simp only [Act.put, tS1, tS2, tS3]
  refine tkA 27 (.agg kc) ?_ (Below.refl _ _) ?_
  · (intro w1 hS; have hW := E1.out.trans (hS.mono E1.out.size); exact exec_load 31 (.tmp 16) rfl _ rfl _ (run_blk_load (P := Try.prog) 31 (gN) _ (N.out.below hW N.out.lt) Try.underlying31 rfl KZ.out))
  simp only [Act.put, tS1, tS2, tS3]
  refine tkO 25 (fun KK hK => ?_)
  go_simp
  refine (CD.out gF Y10x1 (F.out.below E1.out F.out.lt)).mono ?_
  rintro e Y10x2 ⟨rfl, hy⟩
  have E2 := Lib.hid (E1.out.trans (hy.mono E1.out.size))
  have C2 := Lib.hid hy
  clear hy E1
  refine hK.out _ _ C2.out (fun _ => ?_)
  clear hK KK
  refine wpAnyH_mono (S' := (fun w' : World => Below Y10x2.heap.size Y10x2 w')) (fun w1 h => C2.out.trans (h.mono C2.out.size)) _ _ _ _ ?_
  clear C2
  try simp only [Act.put, tS1, tS2, tS3]
  refine tkO 28 (fun KK hK => ?_)
  go_simp
  refine (CD.out gG Y10x2 (G.out.below E2.out G.out.lt)).mono ?_
  rintro e Y10x3 ⟨rfl, hy⟩
  have E3 := Lib.hid (E2.out.trans (hy.mono E2.out.size))
  have C3 := Lib.hid hy
  clear hy E2
  refine hK.out _ _ C3.out (fun _ => ?_)
  clear hK KK
  refine wpAnyH_mono (S' := (fun w' : World => Below Y10x3.heap.size Y10x3 w')) (fun w1 h => C3.out.trans (h.mono C3.out.size)) _ _ _ _ ?_
  clear C3
  try simp only [Act.put, tS1, tS2, tS3]
  refine tkA 29 (?_) ?_ (Below.refl _ _) ?_
  rotate_left
  · (intro w1 hS; go_simp; try with_reducible rfl)
  simp only [Act.put, tS1, tS2, tS3]
  refine tkA 30 (?_) ?_ (Below.refl _ _) ?_
  rotate_left
  · (intro w1 hS; go_simp; try with_reducible rfl)
  simp only [Act.put, tS1, tS2, tS3]
  refine tkA 31 (?_) ?_ (Below.refl _ _) ?_
  rotate_left
  · (intro w1 hS; go_simp; try with_reducible rfl)
  simp only [Act.put, tS1, tS2, tS3]
  refine tkA 32 (?_) ?_ (Below.refl _ _) ?_
  rotate_left
  · (intro w1 hS; go_simp; try with_reducible rfl)
  simp only [Act.put, tS1, tS2, tS3]
  refine tkA 33 (.agg kc) ?_ (Below.refl _ _) ?_
  · (intro w1 hS; have hW := E3.out.trans (hS.mono E3.out.size); exact exec_load 31 (.tmp 16) rfl _ rfl _ (run_blk_load (P := Try.prog) 31 (gN) _ (N.out.below hW N.out.lt) Try.underlying31 rfl KZ.out))
  simp only [Act.put, tS1, tS2, tS3]
  refine tkA 34 (?_) ?_ (Below.refl _ _) ?_
  rotate_left
  · (intro w1 hS; go_simp; try with_reducible rfl)
  simp only [Act.put, tS1, tS2, tS3]
  refine tkO 35 (fun KK hK => ?_)
  go_simp
  refine (CS.out gF Y10x3 (F.out.below E3.out F.out.lt)).mono ?_
  rintro e Y10x4 ⟨rfl, hy⟩
  have E4 := Lib.hid (E3.out.trans (hy.mono E3.out.size))
  have C4 := Lib.hid hy
  clear hy E3
  refine hK.out _ _ C4.out (fun _ => ?_)
  clear hK KK
  refine wpAnyH_mono (S' := (fun w' : World => Below Y10x4.heap.size Y10x4 w')) (fun w1 h => C4.out.trans (h.mono C4.out.size)) _ _ _ _ ?_
  clear C4
  try simp only [Act.put, tS1, tS2, tS3]
  refine tkA 36 (?_) ?_ (Below.refl _ _) ?_
  rotate_left
  · (intro w1 hS; go_simp; try with_reducible rfl)
  simp only [Act.put, tS1, tS2, tS3]
  refine tkA 37 (?_) ?_ (Below.refl _ _) ?_
  rotate_left
  · (intro w1 hS; go_simp; try with_reducible rfl)
  simp only [Act.put, tS1, tS2, tS3]
  refine tkA 38 (?_) ?_ (Below.refl _ _) ?_
  rotate_left
  · (intro w1 hS; go_simp; try with_reducible rfl)
  simp only [Act.put, tS1, tS2, tS3]
  refine tkA 39 (?_) ?_ (Below.refl _ _) ?_
  rotate_left
  · (intro w1 hS; go_simp; try with_reducible rfl)
  simp only [Act.put, tS1, tS2, tS3]
  refine tkA 40 (.agg kc) ?_ (Below.refl _ _) ?_
  · (intro w1 hS; have hW := E4.out.trans (hS.mono E4.out.size); exact exec_load 31 (.tmp 16) rfl _ rfl _ (run_blk_load (P := Try.prog) 31 (gN) _ (N.out.below hW N.out.lt) Try.underlying31 rfl KZ.out))
  simp only [Act.put, tS1, tS2, tS3]
  refine tkA 41 (?_) ?_ (Below.refl _ _) ?_
  rotate_left
  · (intro w1 hS; go_simp; try with_reducible rfl)
  simp only [Act.put, tS1, tS2, tS3]
  refine tkA 43 (?_) ?_ (Below.refl _ _) ?_
  rotate_left
  · (intro w1 hS; go_simp; try with_reducible rfl)
  simp only [Act.put, tS1, tS2, tS3]
  refine tkO 42 (fun KK hK => ?_)
  go_simp
  refine (CS.out gF Y10x4 (F.out.below E4.out F.out.lt)).mono ?_
  rintro e Y10x5 ⟨rfl, hy⟩
  have E5 := Lib.hid (E4.out.trans (hy.mono E4.out.size))
  have C5 := Lib.hid hy
  clear hy E4
  refine hK.out _ _ C5.out (fun _ => ?_)
  clear hK KK
  refine wpAnyH_mono (S' := (fun w' : World => Below Y10x5.heap.size Y10x5 w')) (fun w1 h => C5.out.trans (h.mono C5.out.size)) _ _ _ _ ?_
  clear C5
  try simp only [Act.put, tS1, tS2, tS3]
  refine tkA 44 (?_) ?_ (Below.refl _ _) ?_
  rotate_left
  · (intro w1 hS; go_simp; try with_reducible rfl)
  simp only [Act.put, tS1, tS2, tS3]
  refine tkA 45 (?_) ?_ (Below.refl _ _) ?_
  rotate_left
  · (intro w1 hS; go_simp; try with_reducible rfl)
  simp only [Act.put, tS1, tS2, tS3]
  refine tkA 46 (?_) ?_ (Below.refl _ _) ?_
  rotate_left
  · (intro w1 hS; go_simp; try with_reducible rfl)
  simp only [Act.put, tS1, tS2, tS3]
  refine tkA 47 (?_) ?_ (Below.refl _ _) ?_
  rotate_left
  · (intro w1 hS; go_simp; try with_reducible rfl)
  simp only [Act.put, tS1, tS2, tS3]
  refine tkA 48 (.agg kc) ?_ (Below.refl _ _) ?_
  · (intro w1 hS; have hW := E5.out.trans (hS.mono E5.out.size); exact exec_load 31 (.tmp 16) rfl _ rfl _ (run_blk_load (P := Try.prog) 31 (gN) _ (N.out.below hW N.out.lt) Try.underlying31 rfl KZ.out))
  simp only [Act.put, tS1, tS2, tS3]
  refine tkA 49 (?_) ?_ (Below.refl _ _) ?_
  rotate_left
  · (intro w1 hS; go_simp; try with_reducible rfl)
  simp only [Act.put, tS1, tS2, tS3]
  refine tkA 51 (?_) ?_ (Below.refl _ _) ?_
  rotate_left
  · (intro w1 hS; go_simp; try with_reducible rfl)
  simp only [Act.put, tS1, tS2, tS3]
  refine tkA 52 (.agg kc) ?_ (Below.refl _ _) ?_
  · (intro w1 hS; have hW := E5.out.trans (hS.mono E5.out.size); exact exec_load 31 (.tmp 16) rfl _ rfl _ (run_blk_load (P := Try.prog) 31 (gN) _ (N.out.below hW N.out.lt) Try.underlying31 rfl KZ.out))
  simp only [Act.put, tS1, tS2, tS3]
  refine tkA 53 (?_) ?_ (Below.refl _ _) ?_
  rotate_left
  · (intro w1 hS; go_simp; try with_reducible rfl)
  simp only [Act.put, tS1, tS2, tS3]
  refine tkO 50 (fun KK hK => ?_)
  go_simp
  refine (CS.out gF Y10x5 (F.out.below E5.out F.out.lt)).mono ?_
  rintro e Y10x6 ⟨rfl, hy⟩
  have E6 := Lib.hid (E5.out.trans (hy.mono E5.out.size))
  have C6 := Lib.hid hy
  clear hy E5
  refine hK.out _ _ C6.out (fun _ => ?_)
  clear hK KK
  refine wpAnyH_mono (S' := (fun w' : World => Below Y10x6.heap.size Y10x6 w')) (fun w1 h => C6.out.trans (h.mono C6.out.size)) _ _ _ _ ?_
  clear C6
  try simp only [Act.put, tS1, tS2, tS3]
  refine tkO 54 (fun KK hK => ?_)
  go_simp
  refine (CS.out gG Y10x6 (G.out.below E6.out G.out.lt)).mono ?_
  rintro e Y10x7 ⟨rfl, hy⟩
  have E7 := Lib.hid (E6.out.trans (hy.mono E6.out.size))
  have C7 := Lib.hid hy
  clear hy E6
  refine hK.out _ _ C7.out (fun _ => ?_)
  clear hK KK
  refine wpAnyH_mono (S' := (fun w' : World => Below Y10x7.heap.size Y10x7 w')) (fun w1 h => C7.out.trans (h.mono C7.out.size)) _ _ _ _ ?_
  clear C7
  try simp only [Act.put, tS1, tS2, tS3]
  refine tkA 55 (?_) ?_ (Below.refl _ _) ?_
  rotate_left
  · (intro w1 hS; go_simp; try with_reducible rfl)
  simp only [Act.put, tS1, tS2, tS3]
  refine tkA 56 (?_) ?_ (Below.refl _ _) ?_
  rotate_left
  · (intro w1 hS; go_simp; try with_reducible rfl)
  simp only [Act.put, tS1, tS2, tS3]
  refine wpAnyH_done (by kernel_rfl) ?_ _
  have hy := E7.out
  replace K := Lib.hid (K.out.trans (hy.mono K.out.size))
  replace C := Lib.hid (C.out.below hy C.out.lt)
  replace F := Lib.hid (F.out.below hy F.out.lt)
  replace G := Lib.hid (G.out.below hy G.out.lt)
  replace N := Lib.hid (N.out.below hy N.out.lt)
  replace X := Lib.hid (X.out.below hy X.out.lt)
  replace Y := Lib.hid (Y.out.below hy Y.out.lt)
  clear hy E7
  go_wp2
  go_loopw [19] (fun i wr => ∃ j : Nat, j ≤ s ∧ i = .int .i64 (j : Int) ∧ Hid (Blk wr gF 73 fc) ∧ Hid (Blk wr gG 73 fc) ∧ Hid (Blk wr gN 31 kc) ∧ Hid (Blk wr gC 27 cc) ∧ Hid (Blk wr gX 41 cuX) ∧ Hid (Blk wr gY 41 cuY) ∧ Hid (Below w.heap.size w wr)) (fun i _ => s - (RowKit.intOf i).toNat)
  case atStart => exact ⟨0, by omega, rfl, F, G, N, C, X, Y, K⟩
  case round =>
    obtain ⟨j, hj, rfl, Fr, Gr, Nr, Cr, Xr, Yr, Kr⟩ := hrel
    clear F G N C X Y K
    by_cases hlt : j < s
    · have d8 : decide ((j : Int) < (s : Int)) = true := decide_eq_true (by omega)
      have d9 : decide (j < s) = true := decide_eq_true (by omega)
      obtain ⟨x0, x1⟩ := CX.out j hlt
      obtain ⟨y0, y1⟩ := CY.out j hlt
      have LX := Lib.hid (fun W hb => LD.out gX j cuX W hb x0 x1)
      have LY := Lib.hid (fun W hb => LD.out gY j cuY W hb y0 y1)
      have EQj := Lib.hid (EQ.out j hlt)
      have hp := HPZ.out j
      have X0 := Lib.hid x0
      have X1 := Lib.hid x1
      generalize f j = p at *
      generalize (#[.int .i64 (j : Int), .int .i64 (p : Int)] : Array Value) = PC at *
      have r1 : decide ((p : Int) < 0) = false := decide_eq_false (by omega)
      have r2 : decide ((p : Int) ≥ (z : Int)) = false := decide_eq_false (by omega)
      have r2b : ¬ z ≤ p := by omega
      have r3 : ((j : Int) != (j : Int)) = false := by simp
      have i1 : (0 : Int) ≤ (j : Int) := by omega
      have i2 : (j : Int) < (s : Int) := by omega
      clear CX CY LD EQ HPZ x0 x1 y0 y1 hp
      go_upto_region 15 with fail
      refine wp_region_held (S := (fun w' : World => Below (wr.heap.size) wr w')) (by kernel_rfl) ?_
      change wpAnyH _ _ _ _ _ _ _ _ wr.drew
      have hy : Below wr.heap.size wr wr.drew := (Below.refl _ _).drew
      have hE0 : Below (wr.heap.size) wr wr.drew := (Below.refl _ _).drew
      clear hy
      generalize wr.drew = Y15x0 at hE0  ⊢
      have E0 := Lib.hid hE0
      clear hE0
      refine tkA 0 (?_) ?_ E0.out ?_
      rotate_left
      · (intro w1 hS; go_simp; try with_reducible rfl)
      simp only [Act.put, tS1, tS2, tS3]
      refine tkA 1 (?_) ?_ E0.out ?_
      rotate_left
      · (intro w1 hS; go_simp; try with_reducible rfl)
      simp only [Act.put, tS1, tS2, tS3]
      refine tkA 2 (?_) ?_ E0.out ?_
      rotate_left
      · (intro w1 hS; go_simp; try with_reducible rfl)
      simp only [Act.put, tS1, tS2, tS3]
      refine tkA 3 (.agg PC) ?_ E0.out ?_
      · (intro w1 hS; have hW := hS; exact exec_load 41 (.tmp 135) rfl _ rfl _ (LX.out _ (Xr.out.below hW Xr.out.lt)))
      simp only [Act.put, tS1, tS2, tS3]
      refine tkA 4 (?_) ?_ E0.out ?_
      rotate_left
      · (intro w1 hS; go_simp; try with_reducible rfl)
      simp only [Act.put, tS1, tS2, tS3]
      refine tkA 5 (?_) ?_ E0.out ?_
      rotate_left
      · (intro w1 hS; go_simp; try with_reducible rfl)
      simp only [Act.put, tS1, tS2, tS3]
      refine tkA 6 (?_) ?_ E0.out ?_
      rotate_left
      · (intro w1 hS; go_simp; try with_reducible rfl)
      simp only [Act.put, tS1, tS2, tS3]
      refine tkA 7 (.agg PC) ?_ E0.out ?_
      · (intro w1 hS; have hW := hS; exact exec_load 41 (.tmp 139) rfl _ rfl _ (LY.out _ (Yr.out.below hW Yr.out.lt)))
      simp only [Act.put, tS1, tS2, tS3]
      refine tkA 8 (.bool false) ?_ E0.out ?_
      · (intro w1 hS; exact exec_neq (.tmp 136) (.tmp 140) rfl _ _ rfl rfl true (EQj.out w1))
      simp only [Act.put, tS1, tS2, tS3]
      refine tkA 9 (?_) ?_ E0.out ?_
      rotate_left
      · (intro w1 hS; go_simp; try with_reducible rfl)
      simp only [Act.put, tS1, tS2, tS3]
      refine tkA 10 (?_) ?_ E0.out ?_
      rotate_left
      · (intro w1 hS; go_simp; try with_reducible rfl)
      simp only [Act.put, tS1, tS2, tS3]
      refine tkA 11 (?_) ?_ E0.out ?_
      rotate_left
      · (intro w1 hS; go_simp; try with_reducible rfl)
      simp only [Act.put, tS1, tS2, tS3]
      refine tkA 12 (?_) ?_ E0.out ?_
      rotate_left
      · (intro w1 hS; go_simp; try with_reducible rfl)
      simp only [Act.put, tS1, tS2, tS3]
      refine tkA 13 (?_) ?_ E0.out ?_
      rotate_left
      · (intro w1 hS; go_simp; try with_reducible rfl)
      simp only [Act.put, tS1, tS2, tS3]
      refine tkA 14 (?_) ?_ E0.out ?_
      rotate_left
      · (intro w1 hS; have hW := hS; have q := ((Xr.out.below hW Xr.out.lt).cell (j * 2)).trans X0.out; clear hW hS; go_simp; try with_reducible rfl)
      simp only [Act.put, tS1, tS2, tS3]
      refine tkA 15 (?_) ?_ E0.out ?_
      rotate_left
      · (intro w1 hS; go_simp; try with_reducible rfl)
      simp only [Act.put, tS1, tS2, tS3]
      refine tkA 16 (?_) ?_ E0.out ?_
      rotate_left
      · (intro w1 hS; go_simp; try with_reducible rfl)
      simp only [Act.put, tS1, tS2, tS3]
      refine tkA 17 (?_) ?_ E0.out ?_
      rotate_left
      · (intro w1 hS; go_simp; try with_reducible rfl)
      simp only [Act.put, tS1, tS2, tS3]
      refine tkA 18 (?_) ?_ E0.out ?_
      rotate_left
      · (intro w1 hS; go_simp; try with_reducible rfl)
      simp only [Act.put, tS1, tS2, tS3]
      refine tkA 19 (?_) ?_ E0.out ?_
      rotate_left
      · (intro w1 hS; go_simp; try with_reducible rfl)
      simp only [Act.put, tS1, tS2, tS3]
      refine tkA 20 (?_) ?_ E0.out ?_
      rotate_left
      · (intro w1 hS; go_simp; try with_reducible rfl)
      simp only [Act.put, tS1, tS2, tS3]
      refine tkA 21 (?_) ?_ E0.out ?_
      rotate_left
      · (intro w1 hS; go_simp; try with_reducible rfl)
      simp only [Act.put, tS1, tS2, tS3]
      refine tkA 22 (?_) ?_ E0.out ?_
      rotate_left
      · (intro w1 hS; go_simp; try with_reducible rfl)
      simp only [Act.put, tS1, tS2, tS3]
      refine tkA 23 (?_) ?_ E0.out ?_
      rotate_left
      · (intro w1 hS; have hW := hS; have q := ((Xr.out.below hW Xr.out.lt).cell (j * 2 + 1)).trans X1.out; clear hW hS; go_simp; try with_reducible rfl)
      simp only [Act.put, tS1, tS2, tS3]
      refine tkA 24 (?_) ?_ E0.out ?_
      rotate_left
      · (intro w1 hS; go_simp; try with_reducible rfl)
      simp only [Act.put, tS1, tS2, tS3]
      refine tkA 25 (?_) ?_ E0.out ?_
      rotate_left
      · (intro w1 hS; go_simp; try with_reducible rfl)
      simp only [Act.put, tS1, tS2, tS3]
      refine tkA 26 (?_) ?_ E0.out ?_
      rotate_left
      · (intro w1 hS; go_simp; try with_reducible rfl)
      simp only [Act.put, tS1, tS2, tS3]
      refine tkA 27 (?_) ?_ E0.out ?_
      rotate_left
      · (intro w1 hS; go_simp; try with_reducible rfl)
      simp only [Act.put, tS1, tS2, tS3]
      refine tkA 28 (?_) ?_ E0.out ?_
      rotate_left
      · (intro w1 hS; go_simp; try with_reducible rfl)
      simp only [Act.put, tS1, tS2, tS3]
      refine tkA 29 (?_) ?_ E0.out ?_
      rotate_left
      · (intro w1 hS; go_simp; try with_reducible rfl)
      simp only [Act.put, tS1, tS2, tS3]
      refine tkA 30 (?_) ?_ E0.out ?_
      rotate_left
      · (intro w1 hS; go_simp; try with_reducible rfl)
      simp only [Act.put, tS1, tS2, tS3]
      refine tkA 31 (?_) ?_ E0.out ?_
      rotate_left
      · (intro w1 hS; have hW := hS; have q := ((Xr.out.below hW Xr.out.lt).cell (j * 2 + 1)).trans X1.out; clear hW hS; go_simp; try with_reducible rfl)
      simp only [Act.put, tS1, tS2, tS3]
      refine tkA 32 (?_) ?_ E0.out ?_
      rotate_left
      · (intro w1 hS; go_simp; try with_reducible rfl)
      simp only [Act.put, tS1, tS2, tS3]
      refine tkA 33 (?_) ?_ E0.out ?_
      rotate_left
      · (intro w1 hS; have hW := hS; have q := ((Cr.out.below hW Cr.out.lt).cell 1).trans Q1.out; clear hW hS; go_simp; try with_reducible rfl)
      simp only [Act.put, tS1, tS2, tS3]
      refine tkA 34 (?_) ?_ E0.out ?_
      rotate_left
      · (intro w1 hS; go_simp; try with_reducible rfl)
      simp only [Act.put, tS1, tS2, tS3]
      refine tkA 35 (?_) ?_ E0.out ?_
      rotate_left
      · (intro w1 hS; go_simp; try with_reducible rfl)
      simp only [Act.put, tS1, tS2, tS3]
      refine wpAnyH_done (by kernel_rfl) ?_ _
      have hy := E0.out
      replace Fr := Lib.hid (Fr.out.below hy Fr.out.lt)
      replace Gr := Lib.hid (Gr.out.below hy Gr.out.lt)
      replace Nr := Lib.hid (Nr.out.below hy Nr.out.lt)
      replace Cr := Lib.hid (Cr.out.below hy Cr.out.lt)
      replace Xr := Lib.hid (Xr.out.below hy Xr.out.lt)
      replace Yr := Lib.hid (Yr.out.below hy Yr.out.lt)
      replace Kr := Lib.hid (Kr.out.trans (hy.mono Kr.out.size))
      clear hy E0
      go_wp2
      go_roundw
      case rel => exact ⟨j + 1, Nat.succ_le_of_lt hlt, by go_num, Fr, Gr, Nr, Cr, Xr, Yr, Kr⟩
      case measure => simp [RowKit.intOf]; omega
    · obtain rfl : j = s := by omega
      have d8 : decide (((j : Nat) : Int) < (j : Int)) = false := decide_eq_false (by omega)
      have d9 : decide (j < j) = false := decide_eq_false (by omega)
      clear CX CY LD EQ HPZ Xr Yr hlt hj
      go_upto_region 17 with fail
      have L5 : (loadVar 31 ⟨gN, 0, none⟩).run Try.prog wr = .ok (.agg kc) wr := run_blk_load (P := Try.prog) 31 (gN) _ Nr.out Try.underlying31 rfl KZ.out
      replace L5 := Lib.hid L5
      go_wp2_with (((with_reducible refine wpList_load_want (op := ⟨some 170, .load 31 (.tmp 16), _, _, _, _⟩) ?wg5 31 (.tmp 16) ?wo5 ⟨gN, 0, none⟩ ?wx5 (.agg kc) L5.out ?_); (case wg5 => rfl); (case wo5 => rfl); (case wx5 => rfl)))
      clear L5
      refine (CB.out gF wr Fr.out).mono ?_
      rintro e V47 ⟨x1, rfl, r1, hy⟩
      replace Fr := Lib.hid (Fr.out.below hy Fr.out.lt)
      replace Gr := Lib.hid (Gr.out.below hy Gr.out.lt)
      replace Nr := Lib.hid (Nr.out.below hy Nr.out.lt)
      replace Cr := Lib.hid (Cr.out.below hy Cr.out.lt)
      replace Kr := Lib.hid (Kr.out.trans (hy.mono Kr.out.size))
      have B := Lib.hid (r1)
      clear r1
      clear hy
      obtain ⟨aB, cB, rfl, hlB, hmB⟩ := rd_shape B.out
      rw [HBL.out] at B hlB ⊢
      obtain ⟨gb, ob, rfl, hcB⟩ := B.out.cells (by omega)
      have qb := cell_lt (hcB 0 (by omega))
      clear hcB Fr
      go_wp2
      go_loopw [21] (fun i wr => ∃ q : Nat, q ≤ h ∧ i = .int .i64 (q : Int) ∧ Hid (Blk wr gG 73 fc) ∧ Hid (Blk wr gN 31 kc) ∧ Hid (Blk wr gC 27 cc) ∧ Hid (Rd wr (.slice (some ⟨gb, ob, none⟩) h cB) (nus .i64 BL)) ∧ Hid (Below w.heap.size w wr)) (fun i _ => h - (RowKit.intOf i).toNat)
      case atStart => exact ⟨0, by omega, rfl, Gr, Nr, Cr, B, Kr⟩
      case round =>
        obtain ⟨q, hq, rfl, Gq, Nq, Cq, Bq, Kq⟩ := hrel
        clear Gr Nr Cr B Kr
        by_cases hlt : q < h
        · have d8 : decide ((q : Int) < (h : Int)) = true := decide_eq_true (by omega)
          have d9 : decide (q < h) = true := decide_eq_true (by omega)
          obtain ⟨gb', ob', e', hcB⟩ := Bq.out.cells (by omega)
          cases e'
          have c1 := hcB q hlt
          have hp := HBB.out q hlt
          generalize BL.getD q 0 = p at c1 hp
          have C1 := Lib.hid c1
          have qb2 := cell_lt c1
          have r1 : decide ((p : Int) < 0) = false := decide_eq_false (by omega)
          have r2 : decide ((p : Int) ≥ (b : Int)) = false := decide_eq_false (by omega)
          have r2b : ¬ b ≤ p := by omega
          have i1 : (0 : Int) ≤ (q : Int) := by omega
          have i2 : (q : Int) < (h : Int) := by omega
          clear hcB c1 hp HBB
          go_upto_region 21 with fail
          refine wp_region_held (S := (fun w' : World => Below (wr.heap.size) wr w')) (by kernel_rfl) ?_
          change wpAnyH _ _ _ _ _ _ _ _ wr.drew
          have hy : Below wr.heap.size wr wr.drew := (Below.refl _ _).drew
          have hE0 : Below (wr.heap.size) wr wr.drew := (Below.refl _ _).drew
          clear hy
          generalize wr.drew = Y21x0 at hE0  ⊢
          have E0 := Lib.hid hE0
          clear hE0
          refine tkA 0 (?_) ?_ E0.out ?_
          rotate_left
          · (intro w1 hS; go_simp; try with_reducible rfl)
          simp only [Act.put, tS1, tS2, tS3]
          refine tkA 1 (?_) ?_ E0.out ?_
          rotate_left
          · (intro w1 hS; go_simp; try with_reducible rfl)
          simp only [Act.put, tS1, tS2, tS3]
          refine tkA 2 (?_) ?_ E0.out ?_
          rotate_left
          · (intro w1 hS; go_simp; try with_reducible rfl)
          simp only [Act.put, tS1, tS2, tS3]
          refine tkA 3 (?_) ?_ E0.out ?_
          rotate_left
          · (intro w1 hS; have hW := hS; have q2 := (hW.cell (p := ⟨gb, ob + q, none⟩) qb2).trans C1.out; clear hW hS; go_simp; try with_reducible rfl)
          simp only [Act.put, tS1, tS2, tS3]
          refine tkA 4 (?_) ?_ E0.out ?_
          rotate_left
          · (intro w1 hS; go_simp; try with_reducible rfl)
          simp only [Act.put, tS1, tS2, tS3]
          refine tkA 5 (?_) ?_ E0.out ?_
          rotate_left
          · (intro w1 hS; go_simp; try with_reducible rfl)
          simp only [Act.put, tS1, tS2, tS3]
          refine tkA 6 (?_) ?_ E0.out ?_
          rotate_left
          · (intro w1 hS; go_simp; try with_reducible rfl)
          simp only [Act.put, tS1, tS2, tS3]
          refine tkA 7 (?_) ?_ E0.out ?_
          rotate_left
          · (intro w1 hS; go_simp; try with_reducible rfl)
          simp only [Act.put, tS1, tS2, tS3]
          refine tkA 8 (?_) ?_ E0.out ?_
          rotate_left
          · (intro w1 hS; go_simp; try with_reducible rfl)
          simp only [Act.put, tS1, tS2, tS3]
          refine tkA 9 (?_) ?_ E0.out ?_
          rotate_left
          · (intro w1 hS; have hW := hS; have q2 := (hW.cell (p := ⟨gb, ob + q, none⟩) qb2).trans C1.out; clear hW hS; go_simp; try with_reducible rfl)
          simp only [Act.put, tS1, tS2, tS3]
          refine tkA 10 (?_) ?_ E0.out ?_
          rotate_left
          · (intro w1 hS; go_simp; try with_reducible rfl)
          simp only [Act.put, tS1, tS2, tS3]
          refine tkA 11 (?_) ?_ E0.out ?_
          rotate_left
          · (intro w1 hS; have hW := hS; have q := ((Cq.out.below hW Cq.out.lt).cell 3).trans Q3.out; clear hW hS; go_simp; try with_reducible rfl)
          simp only [Act.put, tS1, tS2, tS3]
          refine tkA 12 (?_) ?_ E0.out ?_
          rotate_left
          · (intro w1 hS; go_simp; try with_reducible rfl)
          simp only [Act.put, tS1, tS2, tS3]
          refine tkA 13 (?_) ?_ E0.out ?_
          rotate_left
          · (intro w1 hS; go_simp; try with_reducible rfl)
          simp only [Act.put, tS1, tS2, tS3]
          refine wpAnyH_done (by kernel_rfl) ?_ _
          have hy := E0.out
          replace Gq := Lib.hid (Gq.out.below hy Gq.out.lt)
          replace Nq := Lib.hid (Nq.out.below hy Nq.out.lt)
          replace Cq := Lib.hid (Cq.out.below hy Cq.out.lt)
          replace Bq := Lib.hid (Bq.out.below hy)
          replace Kq := Lib.hid (Kq.out.trans (hy.mono Kq.out.size))
          clear hy E0
          go_wp2
          go_roundw
          case rel => exact ⟨q + 1, Nat.succ_le_of_lt hlt, by go_num, Gq, Nq, Cq, Bq, Kq⟩
          case measure => simp [RowKit.intOf]; omega
        · obtain rfl : q = h := by omega
          have d8 : decide (((q : Nat) : Int) < (q : Int)) = false := decide_eq_false (by omega)
          have d9 : decide (q < q) = false := decide_eq_false (by omega)
          clear HBB hlt hq
          go_upto_region 23 with fail
          have L6 := (Cq.out.cell 4).trans Q4.out
          have L7 : (loadVar 31 ⟨gN, 0, none⟩).run Try.prog wr = .ok (.agg kc) wr := run_blk_load (P := Try.prog) 31 (gN) _ Nq.out Try.underlying31 rfl KZ.out
          replace L7 := Lib.hid L7
          go_wp2_with (((with_reducible refine wpList_load_want (op := ⟨some 200, .load 31 (.tmp 16), _, _, _, _⟩) ?wg7 31 (.tmp 16) ?wo7 ⟨gN, 0, none⟩ ?wx7 (.agg kc) L7.out ?_); (case wg7 => rfl); (case wo7 => rfl); (case wx7 => rfl)))
          clear L6 L7
          refine (CB.out gG wr Gq.out).mono ?_
          rintro e V88 ⟨x2, rfl, r2, hy⟩
          replace Gq := Lib.hid (Gq.out.below hy Gq.out.lt)
          replace Nq := Lib.hid (Nq.out.below hy Nq.out.lt)
          replace Cq := Lib.hid (Cq.out.below hy Cq.out.lt)
          replace Bq := Lib.hid (Bq.out.below hy)
          replace Kq := Lib.hid (Kq.out.trans (hy.mono Kq.out.size))
          have B2 := Lib.hid (r2)
          clear r2
          clear hy
          go_wp2_with fail
          refine (CI.out _ x2 V88 Bq.out B2.out).mono ?_
          rintro e V89 ⟨rfl, hy⟩
          replace Gq := Lib.hid (Gq.out.below hy Gq.out.lt)
          replace Nq := Lib.hid (Nq.out.below hy Nq.out.lt)
          replace Cq := Lib.hid (Cq.out.below hy Cq.out.lt)
          replace Bq := Lib.hid (Bq.out.below hy)
          replace Kq := Lib.hid (Kq.out.trans (hy.mono Kq.out.size))
          replace B2 := Lib.hid (B2.out.below hy)
          clear hy
          go_wp2_with fail
          refine (CA.out V89).mono ?_
          rintro e V90 ⟨rfl, hy⟩
          replace Gq := Lib.hid (Gq.out.below hy Gq.out.lt)
          replace Nq := Lib.hid (Nq.out.below hy Nq.out.lt)
          replace Cq := Lib.hid (Cq.out.below hy Cq.out.lt)
          replace Bq := Lib.hid (Bq.out.below hy)
          replace Kq := Lib.hid (Kq.out.trans (hy.mono Kq.out.size))
          replace B2 := Lib.hid (B2.out.below hy)
          clear hy
          go_wp2
          go_ret
          exact ⟨rfl, Kq.out⟩
theorem within_walk (va : Value) (zs : List Int) (n : Int) (v6 udp : Bool) (mm : Int) (w : World) (hv : Rd w va (ivs zs)) :
    Calls Try.prog 4 #[va, .int .i64 n, .bool v6, .bool udp, .int .i64 mm] w fun e w' => e = .returned (.bool true) ∧ Below w.heap.size w w' := by
  by_cases hl : zs.length ≤ 30
  · by_cases h1 : mm < 1
    · exact within_low va zs n v6 udp mm hl h1 w hv
    · by_cases h2 : mm > 64
      · exact within_high va zs n v6 udp mm hl h1 h2 w hv
      · exact within_in va zs n v6 udp mm hl h1 h2 w hv
  · exact within_long va zs n v6 udp mm hl w hv
end Go.Proofs.Ytblkpnjmmdbgnaa
