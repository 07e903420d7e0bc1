/- GridWalks' walk. -/
import Derived.Test.YtimnmdeiiahakaaS19v0
import Derived.Deep.CutBlock
import Derived.Deep.DeepCutAuto
import Derived.LoopTactic
import Derived.Handy
namespace Go.Proofs.Ytimnmdeiiahakaa
open Go.RowKit Go.Lib

theorem eq24 (p : Addr) (W : World) : (binOp .eql 24 (.pointer (some p)) (.pointer none)).run Try.prog W = .ok (.bool false) W := by kernel_rfl
theorem built30 (a b : Int) : Try.prog.built 30 [(0, .int .i64 a), (1, .int .i64 b)] = some #[.int .i64 a, .int .i64 b] := by kernel_rfl
theorem made_bls2 (n : Nat) : madeCells #[Value.bool false] n = bls (fun _ => false) n := by have := made_bls n; rw [Nat.mul_one] at this; exact this
theorem it_len_le {α : Type} (c : Nat → Option α) (n : Nat) : (itF c 0 n).length ≤ n := itF_len c 0 n
set_option maxRecDepth 100000 in
set_option maxHeartbeats 4000000 in
theorem walks_walk (st0 sz0 : Int) (va : Value) (zs : List Int) (most : Int) (w : World) (hv : Rd w va (ivs zs)) :
    Calls Try.prog 6 #[.int .i64 st0, .int .i64 sz0, va, .int .i64 most] w fun e w' => e = .returned (.bool true) ∧ Below w.heap.size w w' := by
  have K := Lib.hid (Below.refl w.heap.size w)
  have AW := Lib.hid awake_any
  have HV := Lib.hid hv
  obtain ⟨a, cap, rfl, -, -⟩ := rdI_shape hv
  obtain ⟨ln, hln⟩ : ∃ n, n = zs.length := ⟨_, rfl⟩
  rw [← hln] at HV ⊢
  have HLN := Lib.hid hln
  clear hv hln
  by_cases h0 : st0 < 1
  · have e0a : decide (st0 < 1) = true := decide_eq_true (by omega)
    clear HV HLN h0
    go_enter Try.func6, Try.ntmps6
    go_wp2_with fail
    refine (AW.out w).mono ?_
    rintro e V1 ⟨rfl, hy⟩
    replace K := Lib.hid (K.out.trans (hy.mono K.out.size))
    clear hy
    go_wp2
    go_ret
    exact ⟨rfl, K.out⟩
  by_cases h1 : st0 > 4
  · have e0a : decide (st0 < 1) = false := decide_eq_false (by omega)
    have e1a : decide (st0 > 4) = true := decide_eq_true (by omega)
    have e1b : decide (4 < st0) = true := decide_eq_true (by omega)
    clear HV HLN h0 h1
    go_enter Try.func6, Try.ntmps6
    go_wp2_with fail
    refine (AW.out w).mono ?_
    rintro e V1 ⟨rfl, hy⟩
    replace K := Lib.hid (K.out.trans (hy.mono K.out.size))
    clear hy
    go_wp2
    go_ret
    exact ⟨rfl, K.out⟩
  by_cases h2 : sz0 < 1
  · have e0a : decide (st0 < 1) = false := decide_eq_false (by omega)
    have e1a : decide (st0 > 4) = false := decide_eq_false (by omega)
    have e1b : decide (4 < st0) = false := decide_eq_false (by omega)
    have e2a : decide (sz0 < 1) = true := decide_eq_true (by omega)
    clear HV HLN h0 h1 h2
    go_enter Try.func6, Try.ntmps6
    go_wp2_with fail
    refine (AW.out w).mono ?_
    rintro e V1 ⟨rfl, hy⟩
    replace K := Lib.hid (K.out.trans (hy.mono K.out.size))
    clear hy
    go_wp2
    go_ret
    exact ⟨rfl, K.out⟩
  by_cases h3 : sz0 > 100
  · have e0a : decide (st0 < 1) = false := decide_eq_false (by omega)
    have e1a : decide (st0 > 4) = false := decide_eq_false (by omega)
    have e1b : decide (4 < st0) = false := decide_eq_false (by omega)
    have e2a : decide (sz0 < 1) = false := decide_eq_false (by omega)
    have e3a : decide (sz0 > 100) = true := decide_eq_true (by omega)
    have e3b : decide (100 < sz0) = true := decide_eq_true (by omega)
    clear HV HLN h0 h1 h2 h3
    go_enter Try.func6, Try.ntmps6
    go_wp2_with fail
    refine (AW.out w).mono ?_
    rintro e V1 ⟨rfl, hy⟩
    replace K := Lib.hid (K.out.trans (hy.mono K.out.size))
    clear hy
    go_wp2
    go_ret
    exact ⟨rfl, K.out⟩
  by_cases h4 : ln > 60
  · have e0a : decide (st0 < 1) = false := decide_eq_false (by omega)
    have e1a : decide (st0 > 4) = false := decide_eq_false (by omega)
    have e1b : decide (4 < st0) = false := decide_eq_false (by omega)
    have e2a : decide (sz0 < 1) = false := decide_eq_false (by omega)
    have e3a : decide (sz0 > 100) = false := decide_eq_false (by omega)
    have e3b : decide (100 < sz0) = false := decide_eq_false (by omega)
    have e4a : decide ((ln : Int) > 60) = true := decide_eq_true (by omega)
    have e4b : decide (ln > 60) = true := decide_eq_true (by omega)
    have e4c : decide (60 < ln) = true := decide_eq_true (by omega)
    clear HV HLN h0 h1 h2 h3 h4
    go_enter Try.func6, Try.ntmps6
    go_wp2_with fail
    refine (AW.out w).mono ?_
    rintro e V1 ⟨rfl, hy⟩
    replace K := Lib.hid (K.out.trans (hy.mono K.out.size))
    clear hy
    go_wp2
    go_ret
    exact ⟨rfl, K.out⟩
  have e4d : decide (ln > 60) = false := decide_eq_false (by omega)
  have e4e : decide ((ln : Int) > 60) = false := decide_eq_false (by omega)
  have e4f : decide (60 < ln) = false := decide_eq_false (by omega)
  obtain ⟨st, rfl⟩ : ∃ s : Nat, st0 = (s : Int) := ⟨st0.toNat, by omega⟩
  obtain ⟨sz, rfl⟩ : ∃ s : Nat, sz0 = (s : Int) := ⟨sz0.toNat, by omega⟩
  have f0 : decide ((st : Int) < 1) = false := decide_eq_false (by omega)
  have f1 : decide ((st : Int) > 4) = false := decide_eq_false (by omega)
  have f2 : decide ((sz : Int) < 1) = false := decide_eq_false (by omega)
  have f3 : decide ((sz : Int) > 100) = false := decide_eq_false (by omega)
  have g0 : decide (st < 1) = false := decide_eq_false (by omega)
  have g1 : decide (st > 4) = false := decide_eq_false (by omega)
  have g2 : decide (sz < 1) = false := decide_eq_false (by omega)
  have g3 : decide (sz > 100) = false := decide_eq_false (by omega)
  have g4 : decide (4 < st) = false := decide_eq_false (by omega)
  have g5 : decide (100 < sz) = false := decide_eq_false (by omega)
  have hst : 1 ≤ st ∧ st ≤ 4 := by omega
  have hsz : 1 ≤ sz ∧ sz ≤ 100 := by omega
  have hln : ln ≤ 60 := by omega
  clear h0 h1 h2 h3 h4
  have hNN : st * sz ≤ 400 := Nat.mul_le_mul hst.2 hsz.2
  have hN0 : 0 < st * sz := Nat.mul_pos hst.1 hsz.1
  obtain ⟨NN, hNNe⟩ : ∃ n, n = st * sz := ⟨_, rfl⟩
  rw [← hNNe] at hNN hN0
  have w3 : IntKind.i64.wrap ((st : Int) * (sz : Int)) = (NN : Int) := by rw [hNNe, Int.natCast_mul, IntKind.wrap_i64, ← Int.natCast_mul, ← hNNe]; omega
  have HNN := Lib.hid hNNe
  clear hNNe
  have CN := Lib.hid (fun W => newI_yes st sz (by omega) (by omega) (by omega) (by omega) W)
  have hq := eq24
  go_enter Try.func6, Try.ntmps6
  go_wp2_with fail
  obtain ⟨B, hB⟩ : ∃ B, B = w.heap.size := ⟨_, rfl⟩
  have hB1 := K.out.size
  refine (CN.out w).mono ?_
  rintro e V1 ⟨rfl, hg, hy⟩
  replace K := Lib.hid (K.out.trans (hy.mono K.out.size))
  have HG := Lib.hid (hg)
  rw [← hB] at HG ⊢
  clear hg
  clear hy
  have hB2 : w.heap.size ≤ B := by omega
  clear hB hB1 CN
  go_wp2_with (at_make; refine wpList_mk rfl _ 4 (.bool false) 1 _ _ rfl Try.underlying57 1 info4 (by decide) NN (by omega) rfl rfl ?_)
  rw [made_bls2 NN]
  obtain ⟨gS, hgS⟩ : ∃ g, g = V1.heap.size := ⟨_, rfl⟩
  have hl := HG.out.lt
  have hS1 : B + 2 + st ≤ gS := by omega
  have pb := Blk.new V1 4 (bls (fun _ => false) NN)
  have hal := (Below.refl V1.heap.size V1).alloc (Nat.le_refl _) (.cells (bls (fun _ => false) NN) 4)
  rw [← hgS] at pb ⊢
  have SB := Lib.hid pb
  replace K := Lib.hid (K.out.trans (hal.mono K.out.size))
  have HG2 : Hid (GdI B st sz (cS fun _ => false) (V1.alloc (.cells (bls (fun _ => false) NN) 4))) := HG.out.below hal
  replace HG := HG2
  clear HG2 hal pb hl hgS
  generalize V1.alloc (.cells (bls (fun _ => false) NN) 4) = Va at *
  go_wp2
  go_loopw [12] (fun i wr => ∃ (j : Nat) (s : Nat → Bool), j ≤ ln ∧ i = .int .i64 (j : Int) ∧ Hid (GdI B st sz (cS s) wr) ∧ Hid (Blk wr gS 4 (bls s NN)) ∧ Hid (Below w.heap.size w wr)) (fun i _ => ln - (RowKit.intOf i).toNat)
  case atStart => exact ⟨0, _, Nat.zero_le _, rfl, HG, SB, K⟩
  case round =>
    obtain ⟨j, s, hj, rfl, HGr, SBr, Kr⟩ := hrel
    clear HG SB K
    by_cases hlt : j < ln
    · have d8 : decide ((j : Int) < (ln : Int)) = true := decide_eq_true (by omega)
      have d9 : decide (j < ln) = true := decide_eq_true (by omega)
      have w6 : IntKind.i64.wrap ((j : Int) + 1) = ((j + 1 : Nat) : Int) := by rw [IntKind.wrap_i64]; omega
      have hb0 : 0 ≤ (j : Int) ∧ (j : Int) < (ln : Int) := by omega
      have hrd := HV.out.below Kr.out
      obtain ⟨lb, lo, rfl, hlc⟩ := RdI.cells hrd (by rw [← HLN.out]; omega)
      clear hrd
      have cl := hlc j (by rw [← HLN.out]; exact hlt)
      generalize zs.getD j 0 = z at *
      obtain ⟨k, hk⟩ : ∃ k : Nat, (k : Int) = z % (NN : Int) := ⟨(z % (NN : Int)).toNat, Int.toNat_of_nonneg (Int.emod_nonneg _ (by omega))⟩
      have hkl : k < NN := by have := Int.emod_lt_of_pos z (show (0 : Int) < (NN : Int) by omega); omega
      have CR := Lib.hid (fun W => round_any z (NN : Int) W (by omega) (by omega))
      rw [← hk] at CR
      have hkq := plc_in sz st k (HNN.out ▸ hkl)
      have hkr := Nat.mod_lt k (show 0 < sz by omega)
      have hba := plc_back sz k
      have CSk := Lib.hid (fun W h => setI_in B st sz (cS s) (k / sz) (k % sz) hkq hkr (k : Int) W h)
      rw [hba, cS_put] at CSk
      unfold plA at CSk
      have q1 : (k : Int).tdiv (sz : Int) = ((k / sz : Nat) : Int) := rfl
      have q2 : (k : Int).tmod (sz : Int) = ((k % sz : Nat) : Int) := rfl
      have hal := Nat.div_le_self k sz
      have hbl := Nat.mod_le k sz
      obtain ⟨x, hx⟩ : ∃ a, a = k / sz := ⟨_, rfl⟩
      obtain ⟨y, hy0⟩ : ∃ a, a = k % sz := ⟨_, rfl⟩
      rw [← hx] at q1 CSk hal
      rw [← hy0] at q2 CSk hbl
      have w4 : IntKind.i64.wrap ((k : Int).tdiv (sz : Int)) = (x : Int) := by rw [q1, IntKind.wrap_i64]; omega
      have w5 : IntKind.i64.wrap ((k : Int).tmod (sz : Int)) = (y : Int) := by rw [q2, IntKind.wrap_i64]; omega
      have w4b : IntKind.i64.wrap (x : Int) = (x : Int) := by rw [IntKind.wrap_i64]; omega
      have w5b : IntKind.i64.wrap (y : Int) = (y : Int) := by rw [IntKind.wrap_i64]; omega
      have z0 : ((sz : Int) == 0) = false := by simp; omega
      have z1 : ¬ (sz : Int) = 0 := by omega
      have z3 : ¬ sz = 0 := by omega
      have hbk : 0 ≤ (k : Int) ∧ (k : Int) < (NN : Int) := by omega
      have HKL := Lib.hid hkl
      clear hk hkq hkr hba hx hy0 hlc hal hbl hkl
      go_wp2_with fail
      refine (CR.out wr).mono ?_
      rintro e V51 ⟨rfl, rfl⟩
      go_upto_region 11 with fail
      refine wp_region_held (S := (fun w' : World => True)) (by kernel_rfl) ?_
      change wpAnyH _ _ _ _ _ _ _ _ wr.drew
      have hy : Below wr.heap.size wr wr.drew := (Below.refl _ _).drew
      replace Kr := Lib.hid (Kr.out.trans (hy.mono Kr.out.size))
      replace HGr := Lib.hid (HGr.out.below hy)
      replace SBr := Lib.hid (SBr.out.below hy SBr.out.lt)
      clear hy
      generalize wr.drew = Y11h0 at *
      refine tkA 0 (?_) ?_ trivial ?_
      rotate_left
      · (intro w1 hS; go_simp; try with_reducible rfl)
      simp only [Act.put, tS1, tS2, tS3]
      refine tkA 1 (?_) ?_ trivial ?_
      rotate_left
      · (intro w1 hS; go_simp; try with_reducible rfl)
      simp only [Act.put, tS1, tS2, tS3]
      refine tkA 2 (?_) ?_ trivial ?_
      rotate_left
      · (intro w1 hS; go_simp; try with_reducible rfl)
      simp only [Act.put, tS1, tS2, tS3]
      refine tkA 3 (?_) ?_ trivial ?_
      rotate_left
      · (intro w1 hS; go_simp; try with_reducible rfl)
      simp only [Act.put, tS1, tS2, tS3]
      refine tkA 4 (?_) ?_ trivial ?_
      rotate_left
      · (intro w1 hS; go_simp; try with_reducible rfl)
      simp only [Act.put, tS1, tS2, tS3]
      refine tkA 5 (?_) ?_ trivial ?_
      rotate_left
      · (intro w1 hS; go_simp; try with_reducible rfl)
      simp only [Act.put, tS1, tS2, tS3]
      refine tkA 6 (?_) ?_ trivial ?_
      rotate_left
      · (intro w1 hS; go_simp; try with_reducible rfl)
      simp only [Act.put, tS1, tS2, tS3]
      refine tkA 7 (.agg #[.int .i64 (x : Int), .int .i64 (y : Int)]) ?_ trivial ?_
      · (intro w1 hS; exact exec_build 30 _ rfl #[(0, .int .i64 (x : Int)), (1, .int .i64 (y : Int))] (by kernel_rfl) #[.int .i64 (x : Int), .int .i64 (y : Int)] (built30 _ _))
      simp only [Act.put, tS1, tS2, tS3]
      refine tkA 8 (?_) ?_ trivial ?_
      rotate_left
      · (intro w1 hS; go_simp; try with_reducible rfl)
      simp only [Act.put, tS1, tS2, tS3]
      clear w4 w5 w4b w5b z0 z1 z3 q1 q2
      refine tkO 9 (fun KK hK => ?_)
      go_simp
      refine (CSk.out Y11h0 HGr.out).mono ?_
      rintro e Y11h1 ⟨rfl, hg, ha⟩
      replace HGr := Lib.hid hg
      replace SBr := Lib.hid (ha.blk SBr.out (.inr (by omega)))
      replace Kr := Lib.hid (Kr.out.trans (ha.below hB2 Kr.out.size))
      clear hg ha CSk CR
      refine hK.out _ _ trivial (fun _ => ?_)
      clear hK KK
      try simp only [Act.put, tS1, tS2, tS3]
      refine tkA 10 (?_) ?_ trivial ?_
      rotate_left
      · (intro w1 hS; go_simp; try with_reducible rfl)
      simp only [Act.put, tS1, tS2, tS3]
      refine wpAnyH_done (by kernel_rfl) ?_ _
      have c1 := (SBr.out.cell k).trans (bls_get s NN k HKL.out)
      have c2 := SBr.out.frozen k
      have S2 := Lib.hid (SBr.out.set_ k (.bool true))
      rw [bls_set] at S2
      have G2 := Lib.hid (HGr.out.grown (gb_cell Y11h1 gS k (.bool true)) (.inr hS1))
      have K2 := Lib.hid (Kr.out.setCell (p := ⟨gS, k, none⟩) (by show w.heap.size ≤ gS; omega) (.bool true))
      clear SBr HGr Kr
      go_wp2
      go_roundw
      case rel => exact ⟨j + 1, _, hlt, by go_num, G2, S2, K2⟩
      case measure => simp [RowKit.intOf]; omega
    · obtain rfl : j = ln := by omega
      have d8 : decide (((j : Nat) : Int) < (j : Int)) = false := decide_eq_false (by omega)
      have d9 : decide (j < j) = false := decide_eq_false (by omega)
      clear hlt hj
      obtain ⟨r, hr⟩ : ∃ r : Nat, (r : Int) = most % (((j + 1 : Nat)) : Int) := ⟨(most % (((j + 1 : Nat)) : Int)).toNat, Int.toNat_of_nonneg (Int.emod_nonneg _ (by omega))⟩
      have hrl : r ≤ j := by have := Int.emod_lt_of_pos most (show (0 : Int) < (((j + 1 : Nat)) : Int) by omega); omega
      have CR := Lib.hid (fun W => round_any most (((j + 1 : Nat)) : Int) W (by omega) (by omega))
      rw [← hr] at CR
      have w7 : IntKind.i64.wrap ((j : Int) + 1) = (((j + 1 : Nat)) : Int) := by rw [IntKind.wrap_i64]; omega
      obtain ⟨L, hL⟩ : ∃ L, L = itF (cS s) 0 (st * sz) := ⟨_, rfl⟩
      obtain ⟨X, hX⟩ : ∃ X, X = L.take r := ⟨_, rfl⟩
      have CA1 := Lib.hid (fun W h => all_rd B st sz (cS s) (r : Int) X (by rw [cutG_take, ← hL, hX]) W h)
      have CA2 := Lib.hid (fun W h => all_rd B st sz (cS s) (-1) L (by rw [cutG_all, ← hL]) W h)
      obtain ⟨lx, hlx⟩ : ∃ n, n = X.length := ⟨_, rfl⟩
      obtain ⟨ly, hly⟩ : ∃ n, n = L.length := ⟨_, rfl⟩
      rw [← hlx] at CA1
      rw [← hly] at CA2
      have hmn : lx = min r ly := by rw [hlx, hX, List.length_take, hly]
      have hyN : ly ≤ NN := by rw [hly, hL, HNN.out]; exact itF_len _ _ _
      have HL := Lib.hid hL
      have HX := Lib.hid hX
      have HLX := Lib.hid hlx
      have HLY := Lib.hid hly
      have HMN := Lib.hid hmn
      clear hr hL hX hlx hly hmn w3
      go_wp2_with fail
      refine (CR.out wr).mono ?_
      rintro e V91 ⟨rfl, rfl⟩
      go_wp2_with fail
      refine (CA1.out wr HGr.out).mono ?_
      rintro e V92 ⟨ax, cx, rfl, hx, hy⟩
      replace Kr := Lib.hid (Kr.out.trans (hy.mono Kr.out.size))
      replace HGr := Lib.hid (HGr.out.below hy)
      replace SBr := Lib.hid (SBr.out.below hy SBr.out.lt)
      have RX := Lib.hid (hx)
      clear hx
      clear hy
      go_wp2_with fail
      refine (CA2.out V92 HGr.out).mono ?_
      rintro e V93 ⟨ay, cy, rfl, hx, hy⟩
      replace Kr := Lib.hid (Kr.out.trans (hy.mono Kr.out.size))
      replace HGr := Lib.hid (HGr.out.below hy)
      replace SBr := Lib.hid (SBr.out.below hy SBr.out.lt)
      replace RX := Lib.hid (RX.out.below hy)
      have RY := Lib.hid (hx)
      clear hx
      clear hy
      clear CA1 CA2 HGr
      go_wp2
      go_loopw [17, 16] (fun i n wr => ∃ q : Nat, q ≤ NN ∧ i = .int .i64 (q : Int) ∧ n = .int .i64 ((itF (cS s) 0 q).length : Int) ∧ Hid (Blk wr gS 4 (bls s NN)) ∧ Hid (RdR wr (.slice ax lx cx) sz X) ∧ Hid (RdR wr (.slice ay ly cy) sz L) ∧ Hid (Below w.heap.size w wr)) (fun i _ _ => NN - (RowKit.intOf i).toNat)
      case atStart => exact ⟨0, Nat.zero_le _, rfl, rfl, SBr, RX, RY, Kr⟩
      case round =>
        obtain ⟨q, hq2, rfl, rfl, SBq, RXq, RYq, Kq⟩ := hrel
        clear SBr RX RY Kr
        by_cases hl2 : q < NN
        · have d10 : decide ((q : Int) < (NN : Int)) = true := decide_eq_true (by omega)
          have d11 : decide (q < NN) = true := decide_eq_true (by omega)
          have w6 : IntKind.i64.wrap ((q : Int) + 1) = ((q + 1 : Nat) : Int) := by rw [IntKind.wrap_i64]; omega
          have hb3 : 0 ≤ (q : Int) ∧ (q : Int) < (NN : Int) := by omega
          have cb := (SBq.out.cell q).trans (bls_get s NN q hl2)
          cases hs : s q with
          | false =>
            rw [hs] at cb
            have HNX := Lib.hid (it_none (cS s) q (cS_no hs))
            clear hs
            go_wp2
            go_roundw
            case rel => exact ⟨q + 1, hl2, by go_num, by rw [HNX.out], SBq, RXq, RYq, Kq⟩
            case measure => simp [RowKit.intOf]; omega
          | true =>
            rw [hs] at cb
            obtain ⟨t1, t2, t3⟩ := it_some (cS s) (st * sz) q (HNN.out ▸ hl2) (q : Int) (cS_yes hs)
            have hnL := itF_nth (cS s) (st * sz) q (HNN.out ▸ hl2) (q : Int) (cS_yes hs)
            rw [← HL.out] at t2 hnL
            rw [← HLY.out] at t2
            have HT1 := Lib.hid t1
            obtain ⟨gY, cuY, rfl, hYb, y0, y1, y2⟩ := RYq.out.at _ _ hnL
            have hXn : ∀ i, i < lx → X[i]? = L[i]? := fun i hi => by rw [HX.out, List.getElem?_take_of_lt (by have := HMN.out; omega)]
            obtain ⟨n, hn⟩ : ∃ n, n = (itF (cS s) 0 q).length := ⟨_, rfl⟩
            rw [← hn] at t2 hnL y0 y1 y2 ⊢
            have HN1 := Lib.hid (show (itF (cS s) 0 (q + 1)).length = n + 1 by rw [t1, List.length_append, hn]; rfl)
            have hal := Nat.div_le_self q sz
            have hbl := Nat.mod_le q sz
            have q1 : (q : Int).tdiv (sz : Int) = ((q / sz : Nat) : Int) := rfl
            have q2 : (q : Int).tmod (sz : Int) = ((q % sz : Nat) : Int) := rfl
            obtain ⟨x, hx⟩ : ∃ a, a = q / sz := ⟨_, rfl⟩
            obtain ⟨y, hy0⟩ : ∃ a, a = q % sz := ⟨_, rfl⟩
            simp only [← hx, ← hy0] at y0 y1 hal hbl q1 q2
            have w4 : IntKind.i64.wrap ((q : Int).tdiv (sz : Int)) = (x : Int) := by rw [q1, IntKind.wrap_i64]; omega
            have w5 : IntKind.i64.wrap ((q : Int).tmod (sz : Int)) = (y : Int) := by rw [q2, IntKind.wrap_i64]; omega
            have w4b : IntKind.i64.wrap (x : Int) = (x : Int) := by rw [IntKind.wrap_i64]; omega
            have w5b : IntKind.i64.wrap (y : Int) = (y : Int) := by rw [IntKind.wrap_i64]; omega
            have w8 : IntKind.i64.wrap ((n : Int) + 1) = ((n + 1 : Nat) : Int) := by rw [IntKind.wrap_i64]; omega
            have z0 : ((sz : Int) == 0) = false := by simp; omega
            have z1 : ¬ (sz : Int) = 0 := by omega
            have z3 : ¬ sz = 0 := by omega
            have EP := Lib.hid (fun W => (show (Op.equalIn Op.maxDepth 30 (.agg #[.int .i64 (x : Int), .int .i64 (y : Int)]) (.agg #[.int .i64 (x : Int), .int .i64 (y : Int)])).run Try.prog W = .ok true W from by rw [eq_pl x y x y (i64_wf _ (by omega)) (i64_wf _ (by omega)) (i64_wf _ (by omega)) (i64_wf _ (by omega)) W]; simp))
            have EI := Lib.hid (fun W => eq_it x y q (i64_wf _ (by omega)) (i64_wf _ (by omega)) (i64_wf _ (by omega)) W)
            have e1 : decide ((n : Int) ≥ (ly : Int)) = false := decide_eq_false (by omega)
            have e2 : decide (n ≥ ly) = false := decide_eq_false (by omega)
            have e3 : decide (ly ≤ n) = false := decide_eq_false (by omega)
            have hb4 : 0 ≤ (n : Int) ∧ (n : Int) < (ly : Int) := by omega
            have n1 : ((q : Int) != (q : Int)) = false := by simp
            have YB := Lib.hid hYb
            have Y0 := Lib.hid y0
            have Y1 := Lib.hid y1
            have Y2 := Lib.hid y2
            by_cases hnx : n < lx
            · have f1 : decide ((n : Int) < (lx : Int)) = true := decide_eq_true (by omega)
              have f2 : decide (n < lx) = true := decide_eq_true hnx
              have hb5 : 0 ≤ (n : Int) ∧ (n : Int) < (lx : Int) := by omega
              obtain ⟨gX, cuX, rfl, hXb, x0, x1, x2⟩ := RXq.out.at n _ ((hXn n hnx).trans hnL)
              simp only [← hx, ← hy0] at x0 x1
              have XB := Lib.hid hXb
              have X0 := Lib.hid x0
              have X1 := Lib.hid x1
              have X2 := Lib.hid x2
              clear hs t1 t2 t3 hnL hYb y0 y1 y2 hXn hn hal hbl hx hy0 hXb x0 x1 x2 hnx hl2 hq2
              go_upto_region 21 with fail
              refine wp_region_held (S := (fun w' : World => w' = wr.drew)) (by kernel_rfl) ?_
              change wpAnyH _ _ _ _ _ _ _ _ wr.drew
              have hy : Below wr.heap.size wr wr.drew := (Below.refl _ _).drew
              replace SBq := Lib.hid (SBq.out.below hy SBq.out.lt)
              replace RXq := Lib.hid (RXq.out.below hy)
              replace RYq := Lib.hid (RYq.out.below hy)
              replace Kq := Lib.hid (Kq.out.trans (hy.mono Kq.out.size))
              replace YB := Lib.hid (YB.out.below hy YB.out.lt)
              replace XB := Lib.hid (XB.out.below hy XB.out.lt)
              clear hy
              generalize wr.drew = Y21q at *
              refine tkA 0 (?_) ?_ rfl ?_
              rotate_left
              · (intro w1 hS; rw [hS]; go_simp; try with_reducible rfl)
              simp only [Act.put, tS1, tS2, tS3]
              refine tkA 1 (?_) ?_ rfl ?_
              rotate_left
              · (intro w1 hS; rw [hS]; go_simp; try with_reducible rfl)
              simp only [Act.put, tS1, tS2, tS3]
              refine tkA 2 (?_) ?_ rfl ?_
              rotate_left
              · (intro w1 hS; rw [hS]; go_simp; try with_reducible rfl)
              simp only [Act.put, tS1, tS2, tS3]
              refine tkA 3 (?_) ?_ rfl ?_
              rotate_left
              · (intro w1 hS; rw [hS]; go_simp; try with_reducible rfl)
              simp only [Act.put, tS1, tS2, tS3]
              refine tkA 4 (?_) ?_ rfl ?_
              rotate_left
              · (intro w1 hS; rw [hS]; go_simp; try with_reducible rfl)
              simp only [Act.put, tS1, tS2, tS3]
              refine tkA 5 (?_) ?_ rfl ?_
              rotate_left
              · (intro w1 hS; rw [hS]; go_simp; try with_reducible rfl)
              simp only [Act.put, tS1, tS2, tS3]
              refine tkA 6 (?_) ?_ rfl ?_
              rotate_left
              · (intro w1 hS; rw [hS]; go_simp; try with_reducible rfl)
              simp only [Act.put, tS1, tS2, tS3]
              refine tkA 7 (?_) ?_ rfl ?_
              rotate_left
              · (intro w1 hS; rw [hS]; go_simp; try with_reducible rfl)
              simp only [Act.put, tS1, tS2, tS3]
              refine tkA 8 (?_) ?_ rfl ?_
              rotate_left
              · (intro w1 hS; rw [hS]; go_simp; try with_reducible rfl)
              simp only [Act.put, tS1, tS2, tS3]
              refine tkA 9 (?_) ?_ rfl ?_
              rotate_left
              · (intro w1 hS; rw [hS]; have q := (YB.out.cell (n * 3 + 2)).trans Y2.out; go_simp; try with_reducible rfl)
              simp only [Act.put, tS1, tS2, tS3]
              refine tkA 10 (?_) ?_ rfl ?_
              rotate_left
              · (intro w1 hS; rw [hS]; go_simp; try with_reducible rfl)
              simp only [Act.put, tS1, tS2, tS3]
              refine tkA 11 (?_) ?_ rfl ?_
              rotate_left
              · (intro w1 hS; rw [hS]; go_simp; try with_reducible rfl)
              simp only [Act.put, tS1, tS2, tS3]
              refine tkA 12 (?_) ?_ rfl ?_
              rotate_left
              · (intro w1 hS; rw [hS]; go_simp; try with_reducible rfl)
              simp only [Act.put, tS1, tS2, tS3]
              refine tkA 13 (?_) ?_ rfl ?_
              rotate_left
              · (intro w1 hS; rw [hS]; go_simp; try with_reducible rfl)
              simp only [Act.put, tS1, tS2, tS3]
              refine tkA 14 (?_) ?_ rfl ?_
              rotate_left
              · (intro w1 hS; rw [hS]; go_simp; try with_reducible rfl)
              simp only [Act.put, tS1, tS2, tS3]
              refine tkA 15 (?_) ?_ rfl ?_
              rotate_left
              · (intro w1 hS; rw [hS]; go_simp; try with_reducible rfl)
              simp only [Act.put, tS1, tS2, tS3]
              refine tkA 16 (?_) ?_ rfl ?_
              rotate_left
              · (intro w1 hS; rw [hS]; go_simp; try with_reducible rfl)
              simp only [Act.put, tS1, tS2, tS3]
              refine tkA 17 (?_) ?_ rfl ?_
              rotate_left
              · (intro w1 hS; rw [hS]; go_simp; try with_reducible rfl)
              simp only [Act.put, tS1, tS2, tS3]
              refine tkA 18 (.agg #[.int .i64 (x : Int), .int .i64 (y : Int)]) ?_ rfl ?_
              · (intro w1 hS; rw [hS]; exact exec_load 30 (.tmp 119) rfl _ rfl _ (load_pl YB.out Y0.out Y1.out))
              simp only [Act.put, tS1, tS2, tS3]
              refine tkA 19 (?_) ?_ rfl ?_
              rotate_left
              · (intro w1 hS; rw [hS]; go_simp; try with_reducible rfl)
              simp only [Act.put, tS1, tS2, tS3]
              refine tkA 20 (?_) ?_ rfl ?_
              rotate_left
              · (intro w1 hS; rw [hS]; go_simp; try with_reducible rfl)
              simp only [Act.put, tS1, tS2, tS3]
              refine tkA 21 (?_) ?_ rfl ?_
              rotate_left
              · (intro w1 hS; rw [hS]; go_simp; try with_reducible rfl)
              simp only [Act.put, tS1, tS2, tS3]
              refine tkA 22 (?_) ?_ rfl ?_
              rotate_left
              · (intro w1 hS; rw [hS]; go_simp; try with_reducible rfl)
              simp only [Act.put, tS1, tS2, tS3]
              refine tkA 23 (?_) ?_ rfl ?_
              rotate_left
              · (intro w1 hS; rw [hS]; go_simp; try with_reducible rfl)
              simp only [Act.put, tS1, tS2, tS3]
              refine tkA 24 (?_) ?_ rfl ?_
              rotate_left
              · (intro w1 hS; rw [hS]; go_simp; try with_reducible rfl)
              simp only [Act.put, tS1, tS2, tS3]
              refine tkA 25 (.agg #[.int .i64 (x : Int), .int .i64 (y : Int)]) ?_ rfl ?_
              · (intro w1 hS; rw [hS]; exact exec_build 30 _ rfl #[(0, .int .i64 (x : Int)), (1, .int .i64 (y : Int))] (by kernel_rfl) #[.int .i64 (x : Int), .int .i64 (y : Int)] (built30 _ _))
              simp only [Act.put, tS1, tS2, tS3]
              refine tkA 26 (.bool false) ?_ rfl ?_
              · (intro w1 hS; rw [hS]; exact exec_neqA gd30 (.tmp 120) (.tmp 127) rfl _ _ rfl rfl true (EP.out _))
              simp only [Act.put, tS1, tS2, tS3]
              refine tkA 27 (?_) ?_ rfl ?_
              rotate_left
              · (intro w1 hS; rw [hS]; go_simp; try with_reducible rfl)
              simp only [Act.put, tS1, tS2, tS3]
              refine tkA 28 (?_) ?_ rfl ?_
              rotate_left
              · (intro w1 hS; rw [hS]; go_simp; try with_reducible rfl)
              simp only [Act.put, tS1, tS2, tS3]
              refine tkA 29 (?_) ?_ rfl ?_
              rotate_left
              · (intro w1 hS; rw [hS]; go_simp; try with_reducible rfl)
              simp only [Act.put, tS1, tS2, tS3]
              refine tkA 30 (?_) ?_ rfl ?_
              rotate_left
              · (intro w1 hS; rw [hS]; go_simp; try with_reducible rfl)
              simp only [Act.put, tS1, tS2, tS3]
              refine tkA 31 (?_) ?_ rfl ?_
              rotate_left
              · (intro w1 hS; rw [hS]; go_simp; try with_reducible rfl)
              simp only [Act.put, tS1, tS2, tS3]
              refine tkA 32 (?_) ?_ rfl ?_
              rotate_left
              · (intro w1 hS; rw [hS]; go_simp; try with_reducible rfl)
              simp only [Act.put, tS1, tS2, tS3]
              refine tkA 33 (?_) ?_ rfl ?_
              rotate_left
              · (intro w1 hS; rw [hS]; go_simp; try with_reducible rfl)
              simp only [Act.put, tS1, tS2, tS3]
              refine tkA 34 (?_) ?_ rfl ?_
              rotate_left
              · (intro w1 hS; rw [hS]; go_simp; try with_reducible rfl)
              simp only [Act.put, tS1, tS2, tS3]
              refine tkA 35 (?_) ?_ rfl ?_
              rotate_left
              · (intro w1 hS; rw [hS]; go_simp; try with_reducible rfl)
              simp only [Act.put, tS1, tS2, tS3]
              refine tkA 36 (?_) ?_ rfl ?_
              rotate_left
              · (intro w1 hS; rw [hS]; go_simp; try with_reducible rfl)
              simp only [Act.put, tS1, tS2, tS3]
              refine tkA 37 (.agg #[.int .i64 (x : Int), .int .i64 (y : Int), .int .i64 (q : Int)]) ?_ rfl ?_
              · (intro w1 hS; rw [hS]; exact exec_load 35 (.tmp 138) rfl _ rfl _ (load_it XB.out X0.out X1.out X2.out))
              simp only [Act.put, tS1, tS2, tS3]
              refine tkA 38 (?_) ?_ rfl ?_
              rotate_left
              · (intro w1 hS; rw [hS]; go_simp; try with_reducible rfl)
              simp only [Act.put, tS1, tS2, tS3]
              refine tkA 39 (?_) ?_ rfl ?_
              rotate_left
              · (intro w1 hS; rw [hS]; go_simp; try with_reducible rfl)
              simp only [Act.put, tS1, tS2, tS3]
              refine tkA 40 (?_) ?_ rfl ?_
              rotate_left
              · (intro w1 hS; rw [hS]; go_simp; try with_reducible rfl)
              simp only [Act.put, tS1, tS2, tS3]
              refine tkA 41 (.agg #[.int .i64 (x : Int), .int .i64 (y : Int), .int .i64 (q : Int)]) ?_ rfl ?_
              · (intro w1 hS; rw [hS]; exact exec_load 35 (.tmp 142) rfl _ rfl _ (load_it YB.out Y0.out Y1.out Y2.out))
              simp only [Act.put, tS1, tS2, tS3]
              refine tkA 42 (.bool false) ?_ rfl ?_
              · (intro w1 hS; rw [hS]; exact exec_neqA gd35 (.tmp 139) (.tmp 143) rfl _ _ rfl rfl true (EI.out _))
              simp only [Act.put, tS1, tS2, tS3]
              refine tkA 43 (?_) ?_ rfl ?_
              rotate_left
              · (intro w1 hS; rw [hS]; go_simp; try with_reducible rfl)
              simp only [Act.put, tS1, tS2, tS3]
              refine tkA 44 (?_) ?_ rfl ?_
              rotate_left
              · (intro w1 hS; rw [hS]; go_simp; try with_reducible rfl)
              simp only [Act.put, tS1, tS2, tS3]
              refine wpAnyH_done (by kernel_rfl) ?_ _
              clear w4 w5 w4b w5b q1 q2 z0 z1 z3 YB XB
              go_wp2
              go_roundw
              case rel => exact ⟨q + 1, by omega, by go_num, by rw [HN1.out]; rfl, SBq, RXq, RYq, Kq⟩
              case measure => simp [RowKit.intOf]; omega
            · have f1 : decide ((n : Int) < (lx : Int)) = false := decide_eq_false (by omega)
              have f2 : decide (n < lx) = false := decide_eq_false hnx
              clear hs t1 t2 t3 hnL hYb y0 y1 y2 hXn hn hal hbl hx hy0 hnx hq2
              go_upto_region 21 with fail
              refine wp_region_held (S := (fun w' : World => w' = wr.drew)) (by kernel_rfl) ?_
              change wpAnyH _ _ _ _ _ _ _ _ wr.drew
              have hy : Below wr.heap.size wr wr.drew := (Below.refl _ _).drew
              replace SBq := Lib.hid (SBq.out.below hy SBq.out.lt)
              replace RXq := Lib.hid (RXq.out.below hy)
              replace RYq := Lib.hid (RYq.out.below hy)
              replace Kq := Lib.hid (Kq.out.trans (hy.mono Kq.out.size))
              replace YB := Lib.hid (YB.out.below hy YB.out.lt)
              clear hy
              generalize wr.drew = Y21q at *
              refine tkA 0 (?_) ?_ rfl ?_
              rotate_left
              · (intro w1 hS; rw [hS]; go_simp; try with_reducible rfl)
              simp only [Act.put, tS1, tS2, tS3]
              refine tkA 1 (?_) ?_ rfl ?_
              rotate_left
              · (intro w1 hS; rw [hS]; go_simp; try with_reducible rfl)
              simp only [Act.put, tS1, tS2, tS3]
              refine tkA 2 (?_) ?_ rfl ?_
              rotate_left
              · (intro w1 hS; rw [hS]; go_simp; try with_reducible rfl)
              simp only [Act.put, tS1, tS2, tS3]
              refine tkA 3 (?_) ?_ rfl ?_
              rotate_left
              · (intro w1 hS; rw [hS]; go_simp; try with_reducible rfl)
              simp only [Act.put, tS1, tS2, tS3]
              refine tkA 4 (?_) ?_ rfl ?_
              rotate_left
              · (intro w1 hS; rw [hS]; go_simp; try with_reducible rfl)
              simp only [Act.put, tS1, tS2, tS3]
              refine tkA 5 (?_) ?_ rfl ?_
              rotate_left
              · (intro w1 hS; rw [hS]; go_simp; try with_reducible rfl)
              simp only [Act.put, tS1, tS2, tS3]
              refine tkA 6 (?_) ?_ rfl ?_
              rotate_left
              · (intro w1 hS; rw [hS]; go_simp; try with_reducible rfl)
              simp only [Act.put, tS1, tS2, tS3]
              refine tkA 7 (?_) ?_ rfl ?_
              rotate_left
              · (intro w1 hS; rw [hS]; go_simp; try with_reducible rfl)
              simp only [Act.put, tS1, tS2, tS3]
              refine tkA 8 (?_) ?_ rfl ?_
              rotate_left
              · (intro w1 hS; rw [hS]; go_simp; try with_reducible rfl)
              simp only [Act.put, tS1, tS2, tS3]
              refine tkA 9 (?_) ?_ rfl ?_
              rotate_left
              · (intro w1 hS; rw [hS]; have q := (YB.out.cell (n * 3 + 2)).trans Y2.out; go_simp; try with_reducible rfl)
              simp only [Act.put, tS1, tS2, tS3]
              refine tkA 10 (?_) ?_ rfl ?_
              rotate_left
              · (intro w1 hS; rw [hS]; go_simp; try with_reducible rfl)
              simp only [Act.put, tS1, tS2, tS3]
              refine tkA 11 (?_) ?_ rfl ?_
              rotate_left
              · (intro w1 hS; rw [hS]; go_simp; try with_reducible rfl)
              simp only [Act.put, tS1, tS2, tS3]
              refine tkA 12 (?_) ?_ rfl ?_
              rotate_left
              · (intro w1 hS; rw [hS]; go_simp; try with_reducible rfl)
              simp only [Act.put, tS1, tS2, tS3]
              refine tkA 13 (?_) ?_ rfl ?_
              rotate_left
              · (intro w1 hS; rw [hS]; go_simp; try with_reducible rfl)
              simp only [Act.put, tS1, tS2, tS3]
              refine tkA 14 (?_) ?_ rfl ?_
              rotate_left
              · (intro w1 hS; rw [hS]; go_simp; try with_reducible rfl)
              simp only [Act.put, tS1, tS2, tS3]
              refine tkA 15 (?_) ?_ rfl ?_
              rotate_left
              · (intro w1 hS; rw [hS]; go_simp; try with_reducible rfl)
              simp only [Act.put, tS1, tS2, tS3]
              refine tkA 16 (?_) ?_ rfl ?_
              rotate_left
              · (intro w1 hS; rw [hS]; go_simp; try with_reducible rfl)
              simp only [Act.put, tS1, tS2, tS3]
              refine tkA 17 (?_) ?_ rfl ?_
              rotate_left
              · (intro w1 hS; rw [hS]; go_simp; try with_reducible rfl)
              simp only [Act.put, tS1, tS2, tS3]
              refine tkA 18 (.agg #[.int .i64 (x : Int), .int .i64 (y : Int)]) ?_ rfl ?_
              · (intro w1 hS; rw [hS]; exact exec_load 30 (.tmp 119) rfl _ rfl _ (load_pl YB.out Y0.out Y1.out))
              simp only [Act.put, tS1, tS2, tS3]
              refine tkA 19 (?_) ?_ rfl ?_
              rotate_left
              · (intro w1 hS; rw [hS]; go_simp; try with_reducible rfl)
              simp only [Act.put, tS1, tS2, tS3]
              refine tkA 20 (?_) ?_ rfl ?_
              rotate_left
              · (intro w1 hS; rw [hS]; go_simp; try with_reducible rfl)
              simp only [Act.put, tS1, tS2, tS3]
              refine tkA 21 (?_) ?_ rfl ?_
              rotate_left
              · (intro w1 hS; rw [hS]; go_simp; try with_reducible rfl)
              simp only [Act.put, tS1, tS2, tS3]
              refine tkA 22 (?_) ?_ rfl ?_
              rotate_left
              · (intro w1 hS; rw [hS]; go_simp; try with_reducible rfl)
              simp only [Act.put, tS1, tS2, tS3]
              refine tkA 23 (?_) ?_ rfl ?_
              rotate_left
              · (intro w1 hS; rw [hS]; go_simp; try with_reducible rfl)
              simp only [Act.put, tS1, tS2, tS3]
              refine tkA 24 (?_) ?_ rfl ?_
              rotate_left
              · (intro w1 hS; rw [hS]; go_simp; try with_reducible rfl)
              simp only [Act.put, tS1, tS2, tS3]
              refine tkA 25 (.agg #[.int .i64 (x : Int), .int .i64 (y : Int)]) ?_ rfl ?_
              · (intro w1 hS; rw [hS]; exact exec_build 30 _ rfl #[(0, .int .i64 (x : Int)), (1, .int .i64 (y : Int))] (by kernel_rfl) #[.int .i64 (x : Int), .int .i64 (y : Int)] (built30 _ _))
              simp only [Act.put, tS1, tS2, tS3]
              refine tkA 26 (.bool false) ?_ rfl ?_
              · (intro w1 hS; rw [hS]; exact exec_neqA gd30 (.tmp 120) (.tmp 127) rfl _ _ rfl rfl true (EP.out _))
              simp only [Act.put, tS1, tS2, tS3]
              refine tkA 27 (?_) ?_ rfl ?_
              rotate_left
              · (intro w1 hS; rw [hS]; go_simp; try with_reducible rfl)
              simp only [Act.put, tS1, tS2, tS3]
              refine tkA 28 (?_) ?_ rfl ?_
              rotate_left
              · (intro w1 hS; rw [hS]; go_simp; try with_reducible rfl)
              simp only [Act.put, tS1, tS2, tS3]
              refine tkA 29 (?_) ?_ rfl ?_
              rotate_left
              · (intro w1 hS; rw [hS]; go_simp; try with_reducible rfl)
              simp only [Act.put, tS1, tS2, tS3]
              refine tkA 30 (?_) ?_ rfl ?_
              rotate_left
              · (intro w1 hS; rw [hS]; go_simp; try with_reducible rfl)
              simp only [Act.put, tS1, tS2, tS3]
              refine tkA 31 (?_) ?_ rfl ?_
              rotate_left
              · (intro w1 hS; rw [hS]; go_simp; try with_reducible rfl)
              simp only [Act.put, tS1, tS2, tS3]
              refine tkA 32 (?_) ?_ rfl ?_
              rotate_left
              · (intro w1 hS; rw [hS]; go_simp; try with_reducible rfl)
              simp only [Act.put, tS1, tS2, tS3]
              refine tkA 33 (?_) ?_ rfl ?_
              rotate_left
              · (intro w1 hS; rw [hS]; go_simp; try with_reducible rfl)
              simp only [Act.put, tS1, tS2, tS3]
              refine tkN 34 rfl ?_
              simp only [Act.put, tS1, tS2, tS3]
              refine tkN 35 rfl ?_
              simp only [Act.put, tS1, tS2, tS3]
              refine tkN 36 rfl ?_
              simp only [Act.put, tS1, tS2, tS3]
              refine tkN 37 rfl ?_
              simp only [Act.put, tS1, tS2, tS3]
              refine tkN 38 rfl ?_
              simp only [Act.put, tS1, tS2, tS3]
              refine tkN 39 rfl ?_
              simp only [Act.put, tS1, tS2, tS3]
              refine tkN 40 rfl ?_
              simp only [Act.put, tS1, tS2, tS3]
              refine tkN 41 rfl ?_
              simp only [Act.put, tS1, tS2, tS3]
              refine tkN 42 rfl ?_
              simp only [Act.put, tS1, tS2, tS3]
              refine tkA 43 (?_) ?_ rfl ?_
              rotate_left
              · (intro w1 hS; rw [hS]; go_simp; try with_reducible rfl)
              simp only [Act.put, tS1, tS2, tS3]
              refine tkA 44 (?_) ?_ rfl ?_
              rotate_left
              · (intro w1 hS; rw [hS]; go_simp; try with_reducible rfl)
              simp only [Act.put, tS1, tS2, tS3]
              refine wpAnyH_done (by kernel_rfl) ?_ _
              clear w4 w5 w4b w5b q1 q2 z0 z1 z3 YB
              go_wp2
              go_roundw
              case rel => exact ⟨q + 1, by omega, by go_num, by rw [HN1.out]; rfl, SBq, RXq, RYq, Kq⟩
              case measure => simp [RowKit.intOf]; omega
        · obtain rfl : q = NN := by omega
          have d10 : decide (((q : Nat) : Int) < (q : Int)) = false := decide_eq_false (by omega)
          have d11 : decide (q < q) = false := decide_eq_false (by omega)
          have hfin : (itF (cS s) 0 q).length = ly := by rw [HLY.out, HL.out, HNN.out]
          rw [hfin]
          have hmn := HMN.out
          clear hfin hl2
          by_cases hm : ly < r
          · obtain rfl : lx = ly := by omega
            have m1 : (lx : Int) < (r : Int) := by omega
            clear hmn
            go_wp2_with fail
            refine (CR.out wr).mono ?_
            rintro e V501 ⟨rfl, rfl⟩
            go_wp2_with fail
            refine (AW.out wr).mono ?_
            rintro e V502 ⟨rfl, hy⟩
            replace Kq := Lib.hid (Kq.out.trans (hy.mono Kq.out.size))
            clear hy
            go_wp2
            go_ret
            exact ⟨rfl, Kq.out⟩
          · obtain rfl : lx = r := by omega
            have m1 : ¬ (ly : Int) < (lx : Int) := by omega
            clear hmn
            go_wp2_with fail
            refine (CR.out wr).mono ?_
            rintro e V521 ⟨rfl, rfl⟩
            go_wp2_with fail
            refine (AW.out wr).mono ?_
            rintro e V522 ⟨rfl, hy⟩
            replace Kq := Lib.hid (Kq.out.trans (hy.mono Kq.out.size))
            clear hy
            go_wp2
            go_ret
            exact ⟨rfl, Kq.out⟩
end Go.Proofs.Ytimnmdeiiahakaa
