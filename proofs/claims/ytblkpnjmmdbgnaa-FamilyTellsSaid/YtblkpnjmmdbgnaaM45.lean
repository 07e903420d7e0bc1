/- Texts that the walks of this seat lean on, put together. -/
import Derived.Deep.CutBlock
import Derived.Deep.DeepCutAuto
import Derived.LoopTactic
import Derived.Handy
import Derived.Test.YtblkpnjmmdbgnaaTk
import Derived.Test.YtblkpnjmmdbgnaaM37
import Derived.Test.YtblkpnjmmdbgnaaM38
import Derived.Test.YtblkpnjmmdbgnaaM41
import Derived.Test.YtblkpnjmmdbgnaaM42
import Derived.Test.YtblkpnjmmdbgnaaM44
namespace Go.Proofs.Ytblkpnjmmdbgnaa
open Go.RowKit Go.Lib
theorem bne_self (b : Bool) : (b != b) = false := by cases b <;> rfl
theorem okI (c : Cf) : ((if okC c then (0 : Int) else 1) == 0) = okC c := by cases okC c <;> rfl
theorem zero41 (W : World) : (zeroValue 41).run Try.prog W = .ok (.agg #[.int .i64 0, .int .i64 0]) W := by kernel_rfl
theorem gdB_vF {c : Cf} {k : Fl} {s : Int} (h : vK k = false) : gdB c k s = false := by unfold gdB; rw [h]; rfl
theorem gdB_low {c : Cf} {k : Fl} {s : Int} (h : s < 0) : gdB c k s = false := by unfold gdB; rw [decide_eq_false (show ¬ s ≥ 0 by omega), Bool.false_and, Bool.and_false]
theorem gdB_in {c : Cf} {k : Fl} {s : Int} (h : vK k = true) (h0 : 0 ≤ s) : gdB c k s = decide (s < c.st) := by unfold gdB; rw [h, decide_eq_true (show s ≥ 0 by omega), Bool.true_and, Bool.true_and]
set_option maxRecDepth 100000 in
set_option maxHeartbeats 4000000 in
theorem tells_walk (va : Value) (zs : List Int) (c0 : Cf) (hc0 : c0.Fit) (k : Fl) (hk : k.Fit) (stage n : Int) (hn : n ≤ 9223372036854775807) (w : World) (hv : Rd w va (ivs zs)) :
    Calls Try.prog 3 #[.agg c0.cs, va, .agg k.cs, .int .i64 stage, .int .i64 n] w fun e w' => e = .returned (.bool true) ∧ Below w.heap.size w w' := by
  have K := Lib.hid (Below.refl w.heap.size w)
  have CHK := Lib.hid (fun W => check_any c0 hc0 W)
  have CRK := Lib.hid (fun W => rcheck_any c0 hc0 W)
  have CF := Lib.hid (fun W h => config_any va zs W h)
  have CFF := Lib.hid (cfg_fit zs)
  have CA := Lib.hid (fun W => awake_any W)
  have KV := Lib.hid (fun W => rvalid_any k hk W)
  have hk48 := cf_size c0 hc0
  have IC := Lib.hid (cf_ic c0 hc0)
  have IK := Lib.hid (fl_ik k hk)
  have HK := Lib.hid hk
  obtain ⟨cz, hcz⟩ : ∃ c, c = cfg zs := ⟨_, rfl⟩
  rw [← hcz] at CF CFF
  clear hcz
  have x0 := okI c0
  generalize (if okC c0 then (0 : Int) else 1) = x at *
  generalize okC c0 = b0 at *
  have e0 : (b0 != b0) = false := bne_self b0
  have C0F := Lib.hid hc0
  obtain ⟨cc0, hcc⟩ : ∃ c, c = c0.cs := ⟨_, rfl⟩
  rw [← hcc] at CHK CRK IC hk48 ⊢
  have HCC := Lib.hid hcc
  obtain ⟨kc, hkc⟩ : ∃ c, c = k.cs := ⟨_, rfl⟩
  rw [← hkc] at KV IK ⊢
  have HKC := Lib.hid hkc
  have HV := Lib.hid hv
  have HN := Lib.hid hn
  obtain ⟨a, cap, rfl, -, -⟩ := rdI_shape hv
  obtain ⟨l, hm⟩ : ∃ l, l = zs.length := ⟨_, rfl⟩
  rw [← hm] at HV CF ⊢
  clear hv hm hcc hkc hk hc0 hn hk48
  go_enter Try.func3, Try.ntmps3
  have hal := (Below.refl w.heap.size w).alloc (Nat.le_refl _) (.cells cc0 27)
  replace K := Lib.hid (K.out.trans (hal.mono K.out.size))
  have C := Lib.hid (Blk.new w 27 cc0)
  clear hal
  have hal := (Below.refl (w.alloc (.cells cc0 27)).heap.size (w.alloc (.cells cc0 27))).alloc (Nat.le_refl _) (.cells kc 31)
  replace K := Lib.hid (K.out.trans (hal.mono K.out.size))
  replace C := Lib.hid (C.out.below hal C.out.lt)
  have Nq := Blk.new (w.alloc (.cells cc0 27)) 31 kc
  simp only [World.size_alloc] at Nq
  have N := Lib.hid Nq
  clear Nq
  clear hal
  go_upto_region 1 with fail
  have hzV1 : Hid (((w.alloc (.cells cc0 27)).alloc (.cells kc 31)).heap.size = w.heap.size + 1 + 1) := by show _ = _; simp only [World.size_alloc]
  generalize ((w.alloc (.cells cc0 27)).alloc (.cells kc 31)) = V1 at *
  refine wp_region_held (S := (fun w' : World => Below (V1.heap.size) V1 w')) (by kernel_rfl) ?_
  change wpAnyH _ _ _ _ _ _ _ _ V1.drew
  have hy : Below V1.heap.size V1 V1.drew := (Below.refl _ _).drew
  have hE0 : Below (V1.heap.size) V1 V1.drew := (Below.refl _ _).drew
  clear hy
  generalize V1.drew = Y1x0 at hE0  ⊢
  have E0 := Lib.hid hE0
  clear hE0
  refine tkA 0 (.agg cc0) ?_ E0.out ?_
  · (intro w1 hS; have hW := hS; exact exec_load 27 (.tmp 5) rfl _ rfl _ (run_blk_load (P := Try.prog) 27 (w.heap.size) _ (C.out.below hW C.out.lt) Try.underlying27 rfl IC.out))
  simp only [Act.put, tS1, tS2, tS3]
  refine tkA 3 (.agg cc0) ?_ E0.out ?_
  · (intro w1 hS; have hW := hS; exact exec_load 27 (.tmp 5) rfl _ rfl _ (run_blk_load (P := Try.prog) 27 (w.heap.size) _ (C.out.below hW C.out.lt) Try.underlying27 rfl IC.out))
  simp only [Act.put, tS1, tS2, tS3]
  refine tkO 1 (fun KK hK => ?_)
  go_simp
  refine (CHK.out Y1x0).mono ?_
  rintro e Y1x1 ⟨rfl, hy⟩
  have E1 := Lib.hid (E0.out.trans (hy.mono E0.out.size))
  have C1 := Lib.hid E1.out
  clear hy E0
  refine hK.out _ _ C1.out (fun _ => ?_)
  clear hK KK
  refine wpAnyH_mono (S' := (fun w' : World => Below Y1x1.heap.size Y1x1 w')) (fun w1 h => C1.out.trans (h.mono C1.out.size)) _ _ _ _ ?_
  clear C1
  try simp only [Act.put, tS1, tS2, tS3]
  refine tkA 2 (?_) ?_ (Below.refl _ _) ?_
  rotate_left
  · (intro w1 hS; go_simp; try with_reducible rfl)
  simp only [Act.put, tS1, tS2, tS3]
  refine tkO 4 (fun KK hK => ?_)
  go_simp
  refine (CRK.out Y1x1).mono ?_
  rintro e Y1x2 ⟨rfl, hy⟩
  have E2 := Lib.hid (E1.out.trans (hy.mono E1.out.size))
  have C2 := Lib.hid hy
  clear hy E1
  refine hK.out _ _ C2.out (fun _ => ?_)
  clear hK KK
  refine wpAnyH_mono (S' := (fun w' : World => Below Y1x2.heap.size Y1x2 w')) (fun w1 h => C2.out.trans (h.mono C2.out.size)) _ _ _ _ ?_
  clear C2
  try simp only [Act.put, tS1, tS2, tS3]
  refine tkA 5 (?_) ?_ (Below.refl _ _) ?_
  rotate_left
  · (intro w1 hS; go_simp; try with_reducible rfl)
  simp only [Act.put, tS1, tS2, tS3]
  refine wpAnyH_done (by kernel_rfl) ?_ _
  have hy := E2.out
  replace K := Lib.hid (K.out.trans (hy.mono K.out.size))
  replace C := Lib.hid (C.out.below hy C.out.lt)
  replace N := Lib.hid (N.out.below hy N.out.lt)
  clear hy E2
  go_wp2
  go_loopw [11] (fun i wr => ∃ (j : Nat) (cx : Cf), j ≤ 2 ∧ cx.Fit ∧ i = .int .i64 (j : Int) ∧ Hid (Blk wr w.heap.size 27 cx.cs) ∧ Hid (Blk wr (w.heap.size + 1) 31 kc) ∧ Hid (Below w.heap.size w wr)) (fun i _ => 2 - (RowKit.intOf i).toNat)
  case atStart => exact ⟨0, c0, by omega, C0F.out, rfl, Lib.hid (HCC.out ▸ C.out), N, K⟩
  case round =>
    obtain ⟨j, cx, hj, hcx, rfl, Cr, Nr, Kr⟩ := hrel
    clear C N K CHK CRK C0F HCC x0 e0 IC
    by_cases hlt : j < 2
    · have d8 : decide ((j : Int) < 2) = true := decide_eq_true (by omega)
      have d9 : decide (j < 2) = true := decide_eq_true (by omega)
      have icx := Lib.hid (cf_ic _ hcx)
      have scx := cf_size _ hcx
      have HCX := Lib.hid hcx
      have HXX := Lib.hid (show ∃ c' : Cf, c'.Fit ∧ c'.cs = cx.cs from ⟨cx, hcx, rfl⟩)
      generalize cx.cs = ccx at *
      clear hcx
      go_upto_if 31 with fail
      go_cut [] (fun wx => ∃ c' : Cf, c'.Fit ∧ Blk wx w.heap.size 27 c'.cs ∧ Blk wx (w.heap.size + 1) 31 kc ∧ Below w.heap.size w wx)
      case first =>
        by_cases h1 : j = 1
        · have f1 : ((j : Int) == 1) = true := by simp; omega
          have RY := Lib.hid (show cz.cs.size = ccx.size from by rw [cf_size _ CFF.out, scx])
          have RZ := Lib.hid (cf_ic _ CFF.out)
          have RA := Lib.hid (cf_all cz)
          have CZQ := Lib.hid (show cz.Fit ∧ cz.cs = cz.cs from ⟨CFF.out, rfl⟩)
          by_cases hl : l ≤ 30
          · have g1 : decide ((l : Int) > 30) = false := decide_eq_false (by omega)
            have g2 : ¬ 30 < l := by omega
            clear h1 hl scx HXX HCX
            go_wp2_with fail
            refine (CF.out wr (HV.out.below Kr.out)).mono ?_
            rintro e V21 ⟨rfl, hy⟩
            replace Cr := Lib.hid (Cr.out.below hy Cr.out.lt)
            replace Nr := Lib.hid (Nr.out.below hy Nr.out.lt)
            replace Kr := Lib.hid (Kr.out.trans (hy.mono Kr.out.size))
            clear hy
            go_wp2_with (((with_reducible refine wpList_blk_store (op := ⟨none, .store 27 (.tmp 5) (.tmp 37), _, _, _, _⟩) ?sg1 27 (.tmp 5) (.tmp 37) ?so1 (w.heap.size) cz.cs ?sx1 ?sy1 Cr.out RY.out RZ.out RA.out ?_); (case sg1 => rfl); (case so1 => rfl); (case sx1 => rfl); (case sy1 => rfl)))
            intro V22 hA hF hB
            replace Nr := Lib.hid (show Blk _ _ _ _ from (hF _ (by omega)).trans Nr.out)
            replace Kr := Lib.hid (Kr.out.trans (hB _ (by omega)))
            replace Cr := Lib.hid hA
            clear hA hF hB
            go_wp2
            go_meet
            exact ⟨cz, CFF.out, Cr.out, Nr.out, Kr.out⟩
          · have g1 : decide ((l : Int) > 30) = true := decide_eq_true (by omega)
            have g2 : 30 < l := by omega
            clear h1 hl scx HXX HCX
            go_wp2_with fail
            refine (CA.out wr).mono ?_
            rintro e V21 ⟨rfl, hy⟩
            replace Cr := Lib.hid (Cr.out.below hy Cr.out.lt)
            replace Nr := Lib.hid (Nr.out.below hy Nr.out.lt)
            replace Kr := Lib.hid (Kr.out.trans (hy.mono Kr.out.size))
            clear hy
            go_wp2
            go_ret
            exact ⟨rfl, Kr.out⟩
        · have f1 : ((j : Int) == 1) = false := by simp; omega
          obtain ⟨c', hc', he⟩ := HXX.out
          clear h1 scx HXX HCX
          go_wp2
          go_meet
          exact ⟨c', hc', he ▸ Cr.out, Nr.out, Kr.out⟩
      case rest =>
        clear Cr Nr Kr HXX HCX scx icx CF HV CFF CA
        obtain ⟨c, hc, C, N, K⟩ := hcut
        have hk := HK.out
        replace C := Lib.hid C
        replace N := Lib.hid N
        replace K := Lib.hid K
        have IC := Lib.hid (cf_ic _ hc)
        have HXX := Lib.hid (show ∃ c' : Cf, c'.Fit ∧ c'.cs = c.cs from ⟨c, hc, rfl⟩)
        have CRK := Lib.hid (fun W => rcheck_any c hc W)
        cases hok : okC c with
        | false =>
          have CN := Lib.hid (fun W => new_no c hc hok W)
          rw [hok] at CRK
          generalize c.cs = cc at *
          clear hok hc KV
          have L2 : (loadVar 27 ⟨w.heap.size, 0, none⟩).run Try.prog wc = .ok (.agg cc) wc := run_blk_load (P := Try.prog) 27 (w.heap.size) _ C.out Try.underlying27 rfl IC.out
          replace L2 := Lib.hid L2
          go_wp2_with (((with_reducible refine wpList_load_want (op := ⟨some 39, .load 27 (.tmp 5), _, _, _, _⟩) ?wg2 27 (.tmp 5) ?wo2 ⟨w.heap.size, 0, none⟩ ?wx2 (.agg cc) L2.out ?_); (case wg2 => rfl); (case wo2 => rfl); (case wx2 => rfl)))
          clear L2
          refine (CN.out wc).mono ?_
          rintro e V41 ⟨rfl, hy⟩
          replace C := Lib.hid (C.out.below hy C.out.lt)
          replace N := Lib.hid (N.out.below hy N.out.lt)
          replace K := Lib.hid (K.out.trans (hy.mono K.out.size))
          clear hy
          have L3 : (loadVar 27 ⟨w.heap.size, 0, none⟩).run Try.prog V41 = .ok (.agg cc) V41 := run_blk_load (P := Try.prog) 27 (w.heap.size) _ C.out Try.underlying27 rfl IC.out
          replace L3 := Lib.hid L3
          go_wp2_with (((with_reducible refine wpList_load_want (op := ⟨some 43, .load 27 (.tmp 5), _, _, _, _⟩) ?wg3 27 (.tmp 5) ?wo3 ⟨w.heap.size, 0, none⟩ ?wx3 (.agg cc) L3.out ?_); (case wg3 => rfl); (case wo3 => rfl); (case wx3 => rfl)))
          clear L3
          refine (CRK.out V41).mono ?_
          rintro e V42 ⟨rfl, hy⟩
          replace C := Lib.hid (C.out.below hy C.out.lt)
          replace N := Lib.hid (N.out.below hy N.out.lt)
          replace K := Lib.hid (K.out.trans (hy.mono K.out.size))
          clear hy
          go_wp2
          go_roundw
          case rel =>
            obtain ⟨c', u1, u2⟩ := HXX.out
            exact ⟨j + 1, c', Nat.succ_le_of_lt hlt, u1, by go_num, u2 ▸ C, N, K⟩
          case measure => simp [RowKit.intOf]; omega
        | true =>
          obtain ⟨b1, b2⟩ := okC_st hok
          obtain ⟨s, hs⟩ : ∃ s : Nat, c.st = (s : Int) := ⟨c.st.toNat, by omega⟩
          have CN := Lib.hid (fun W => new_yes c hc hok W)
          rw [hok] at CRK
          have CP := Lib.hid (fun g W hF => place_all c hc hok k hk stage g W hF)
          have CR := Lib.hid (fun (hg : gdB c k stage = true) W => rplace_all c hc hok k hk stage hg W)
          have PE := Lib.hid (fun (hg : gdB c k stage = true) W => paC_eq c hok k stage hg W)
          have CD := Lib.hid (fun g W hF => digest_all c hc hok k hk g W hF)
          have CRD := Lib.hid (fun W => rdigest_all c hc hok k hk W)
          have CB := Lib.hid (fun g W hF => bits_all c hc hok k hk g W hF)
          have CRB := Lib.hid (fun W => rbits_all c hc hok k hk W)
          have CI := Lib.hid (fun x y W h1 h2 => ints_any x y (btN c k) W h1 h2 (btN_len c k hok))
          have CS := Lib.hid (fun g W hF => slot_all c hc k hk g n HN.out W hF)
          have CRS := Lib.hid (fun W => rslot_all c hc k hk n HN.out W)
          have CLY := Lib.hid (fun (hv : vK k = true) g W hF => all_n c hc hok k hk hv g (-1) c.st.toNat (by omega) (Nat.le_refl _) (cut_all c k hv) W hF)
          have CL1 := Lib.hid (fun (hv : vK k = true) g W hF => all_n c hc hok k hk hv g 1 1 (by omega) (by omega) (cut_one c k hv (by omega)) W hF)
          rw [show c.st.toNat = s by omega] at CLY
          have CLN := Lib.hid (fun (hv : vK k = false) g most W hF => all_none c hc hok k hk hv g most W hF)
          have CPI := Lib.hid (fun i (hi : i < s) W => rplace_any c hc hok i (by omega) k hk W)
          have EQ := Lib.hid (fun i (hi : i < s) W => eq_place i (plN c k i) (by omega) (plN_lt c k i hok) W)
          have LD := Lib.hid (fun g i cur W hb h0 h1 => load_at W g i (plN c k i) cur hb h0 h1)
          obtain ⟨f, hf⟩ : ∃ f : Nat → Nat, f = fun i => plN c k i := ⟨_, rfl⟩
          have hf2 : ∀ i, plN c k i = f i := fun i => by rw [hf]
          simp only [hf2] at CLY CL1 CPI EQ LD
          have G1 := Lib.hid (fun h : vK k = false => gdB_vF (c := c) (s := stage) h)
          have G2 := Lib.hid (fun h : stage < 0 => gdB_low (c := c) (k := k) h)
          have G3 := Lib.hid (fun (h : vK k = true) (h0 : 0 ≤ stage) => gdB_in (c := c) h h0)
          rw [hs] at G3
          obtain ⟨q0, -⟩ := cf_get c hc
          rw [hs] at q0
          have Q0 := Lib.hid q0
          obtain ⟨ZP, hZP⟩ : ∃ Z : Array Value, Z = #[.int .i64 0, .int .i64 0] := ⟨_, rfl⟩
          have Z41 := Lib.hid zero41
          rw [← hZP] at Z41
          have PY := Lib.hid (show (paC c k stage).size = ZP.size from by rw [hZP, paC_size]; rfl)
          have PZ : Hid ((Try.prog.info? 41).map (·.size) = some (paC c k stage).size) := by show _ = _; rw [paC_size]; exact i41
          have PA := Lib.hid (paC_one c k stage)
          have hs14 : 1 ≤ s ∧ s ≤ 4 := by omega
          rw [← HKC.out] at CP CR CD CRD CB CRB CS CRS CLY CL1 CLN CPI
          clear hZP q0 hf hf2 b1 b2 hs
          generalize paC c k stage = PC at *
          generalize gdB c k stage = gd at *
          generalize dgN c k = dv at *
          generalize btN c k = BL at *
          generalize slN c k n = sl at *
          generalize vK k = vk at *
          generalize famC c = fc at *
          generalize c.cs = cc at *
          clear hok hc hk HK HKC HN
          have e1 : ((dv : Int) != (dv : Int)) = false := by simp
          have e2 : ((sl : Int) != (sl : Int)) = false := by simp
          have e3 : (gd != gd) = false := bne_self gd
          have L4 : (loadVar 27 ⟨w.heap.size, 0, none⟩).run Try.prog wc = .ok (.agg cc) wc := run_blk_load (P := Try.prog) 27 (w.heap.size) _ C.out Try.underlying27 rfl IC.out
          replace L4 := Lib.hid L4
          go_wp2_with (((with_reducible refine wpList_load_want (op := ⟨some 39, .load 27 (.tmp 5), _, _, _, _⟩) ?wg4 27 (.tmp 5) ?wo4 ⟨w.heap.size, 0, none⟩ ?wx4 (.agg cc) L4.out ?_); (case wg4 => rfl); (case wo4 => rfl); (case wx4 => rfl)))
          clear L4
          refine (CN.out wc).mono ?_
          rintro e V41 ⟨⟨gF, rfl, qF, hF⟩, hy⟩
          replace C := Lib.hid (C.out.below hy C.out.lt)
          replace N := Lib.hid (N.out.below hy N.out.lt)
          replace K := Lib.hid (K.out.trans (hy.mono K.out.size))
          have F := Lib.hid (hF)
          clear hF qF
          clear hy
          have L5 : (loadVar 27 ⟨w.heap.size, 0, none⟩).run Try.prog V41 = .ok (.agg cc) V41 := run_blk_load (P := Try.prog) 27 (w.heap.size) _ C.out Try.underlying27 rfl IC.out
          replace L5 := Lib.hid L5
          go_wp2_with (((with_reducible refine wpList_load_want (op := ⟨some 43, .load 27 (.tmp 5), _, _, _, _⟩) ?wg5 27 (.tmp 5) ?wo5 ⟨w.heap.size, 0, none⟩ ?wx5 (.agg cc) L5.out ?_); (case wg5 => rfl); (case wo5 => rfl); (case wx5 => rfl)))
          clear L5
          refine (CRK.out V41).mono ?_
          rintro e V42 ⟨rfl, hy⟩
          replace C := Lib.hid (C.out.below hy C.out.lt)
          replace N := Lib.hid (N.out.below hy N.out.lt)
          replace K := Lib.hid (K.out.trans (hy.mono K.out.size))
          replace F := Lib.hid (F.out.below hy F.out.lt)
          clear hy
          have L6 : (loadVar 31 ⟨w.heap.size + 1, 0, none⟩).run Try.prog V42 = .ok (.agg kc) V42 := run_blk_load (P := Try.prog) 31 (w.heap.size + 1) _ N.out Try.underlying31 rfl IK.out
          replace L6 := Lib.hid L6
          go_wp2_with (((with_reducible refine wpList_load_want (op := ⟨some 60, .load 31 (.tmp 7), _, _, _, _⟩) ?wg6 31 (.tmp 7) ?wo6 ⟨w.heap.size + 1, 0, none⟩ ?wx6 (.agg kc) L6.out ?_); (case wg6 => rfl); (case wo6 => rfl); (case wx6 => rfl)))
          clear L6
          refine (CP.out gF V42 F.out).mono ?_
          rintro e V43 ⟨rfl, hy⟩
          replace C := Lib.hid (C.out.below hy C.out.lt)
          replace N := Lib.hid (N.out.below hy N.out.lt)
          replace K := Lib.hid (K.out.trans (hy.mono K.out.size))
          replace F := Lib.hid (F.out.below hy F.out.lt)
          have z41 := Z41.out
          clear hy
          go_wp2_with (((with_reducible refine wpList_blk_store (op := ⟨none, .store 41 (.tmp 14) (.tmp 63), _, _, _, _⟩) ?sg7 41 (.tmp 14) (.tmp 63) ?so7 (V43.heap.size) PC ?sx7 ?sy7 (Blk.new V43 41 ZP) PY.out PZ.out PA.out ?_); (case sg7 => rfl); (case so7 => rfl); (case sx7 => rfl); (case sy7 => rfl)))
          have qCP : w.heap.size < V43.heap.size := C.out.lt
          have qNP : w.heap.size + 1 < V43.heap.size := N.out.lt
          intro V44 hA hF hB
          have hy := ((Below.refl V43.heap.size V43).alloc (Nat.le_refl _) (.cells ZP 41)).trans (hB _ (Nat.le_refl _))
          replace C := Lib.hid (C.out.below hy C.out.lt)
          replace N := Lib.hid (N.out.below hy N.out.lt)
          replace K := Lib.hid (K.out.trans (hy.mono K.out.size))
          replace F := Lib.hid (F.out.below hy F.out.lt)
          have P := Lib.hid hA
          clear hA hF hB hy
          clear z41
          obtain ⟨gP, hg⟩ : ∃ g, g = V43.heap.size := ⟨_, rfl⟩
          rw [← hg] at P ⊢
          clear hg
          go_upto_region 17 with fail
          go_cut [16] (fun v wx => v = .bool gd ∧ Blk wx w.heap.size 27 cc ∧ Blk wx (w.heap.size + 1) 31 kc ∧ Blk wx gF 73 fc ∧ Blk wx gP 41 PC ∧ Below w.heap.size w wx)
          case first =>
            clear CP CR PE CD CRD CB CRB CI CS CRS CLY CL1 CLN CPI EQ LD PY PA Z41 HXX CN CRK
            rcases Bool.eq_false_or_eq_true vk with hvk | hvk
            · by_cases h0 : 0 ≤ stage
              · have hg := G3.out hvk h0
                have d1 : decide (stage ≥ 0) = true := decide_eq_true h0
                have d2 : decide (0 ≤ stage) = true := decide_eq_true h0
                subst hvk hg
                clear G1 G2 G3
                have L8 : (loadVar 31 ⟨w.heap.size + 1, 0, none⟩).run Try.prog V44 = .ok (.agg kc) V44 := run_blk_load (P := Try.prog) 31 (w.heap.size + 1) _ N.out Try.underlying31 rfl IK.out
                replace L8 := Lib.hid L8
                go_wp2_with (((with_reducible refine wpList_load_want (op := ⟨some 65, .load 31 (.tmp 7), _, _, _, _⟩) ?wg8 31 (.tmp 7) ?wo8 ⟨w.heap.size + 1, 0, none⟩ ?wx8 (.agg kc) L8.out ?_); (case wg8 => rfl); (case wo8 => rfl); (case wx8 => rfl)))
                clear L8
                refine (KV.out V44).mono ?_
                rintro e V81 ⟨rfl, hy⟩
                replace C := Lib.hid (C.out.below hy C.out.lt)
                replace N := Lib.hid (N.out.below hy N.out.lt)
                replace K := Lib.hid (K.out.trans (hy.mono K.out.size))
                replace F := Lib.hid (F.out.below hy F.out.lt)
                replace P := Lib.hid (P.out.below hy P.out.lt)
                clear hy
                have L9 := (C.out.cell 0).trans Q0.out
                go_wp2
                go_meet
                exact ⟨rfl, C.out, N.out, F.out, P.out, K.out⟩
              · have hg := G2.out (Int.not_le.mp h0)
                have d1 : decide (stage ≥ 0) = false := decide_eq_false h0
                have d2 : decide (0 ≤ stage) = false := decide_eq_false h0
                subst hvk hg
                clear G1 G2 G3
                have L10 : (loadVar 31 ⟨w.heap.size + 1, 0, none⟩).run Try.prog V44 = .ok (.agg kc) V44 := run_blk_load (P := Try.prog) 31 (w.heap.size + 1) _ N.out Try.underlying31 rfl IK.out
                replace L10 := Lib.hid L10
                go_wp2_with (((with_reducible refine wpList_load_want (op := ⟨some 65, .load 31 (.tmp 7), _, _, _, _⟩) ?wg10 31 (.tmp 7) ?wo10 ⟨w.heap.size + 1, 0, none⟩ ?wx10 (.agg kc) L10.out ?_); (case wg10 => rfl); (case wo10 => rfl); (case wx10 => rfl)))
                clear L10
                refine (KV.out V44).mono ?_
                rintro e V81 ⟨rfl, hy⟩
                replace C := Lib.hid (C.out.below hy C.out.lt)
                replace N := Lib.hid (N.out.below hy N.out.lt)
                replace K := Lib.hid (K.out.trans (hy.mono K.out.size))
                replace F := Lib.hid (F.out.below hy F.out.lt)
                replace P := Lib.hid (P.out.below hy P.out.lt)
                clear hy
                go_wp2
                go_meet
                exact ⟨rfl, C.out, N.out, F.out, P.out, K.out⟩
            · have hg := G1.out hvk
              subst hvk hg
              clear G1 G2 G3
              have L11 : (loadVar 31 ⟨w.heap.size + 1, 0, none⟩).run Try.prog V44 = .ok (.agg kc) V44 := run_blk_load (P := Try.prog) 31 (w.heap.size + 1) _ N.out Try.underlying31 rfl IK.out
              replace L11 := Lib.hid L11
              go_wp2_with (((with_reducible refine wpList_load_want (op := ⟨some 65, .load 31 (.tmp 7), _, _, _, _⟩) ?wg11 31 (.tmp 7) ?wo11 ⟨w.heap.size + 1, 0, none⟩ ?wx11 (.agg kc) L11.out ?_); (case wg11 => rfl); (case wo11 => rfl); (case wx11 => rfl)))
              clear L11
              refine (KV.out V44).mono ?_
              rintro e V81 ⟨rfl, hy⟩
              replace C := Lib.hid (C.out.below hy C.out.lt)
              replace N := Lib.hid (N.out.below hy N.out.lt)
              replace K := Lib.hid (K.out.trans (hy.mono K.out.size))
              replace F := Lib.hid (F.out.below hy F.out.lt)
              replace P := Lib.hid (P.out.below hy P.out.lt)
              clear hy
              go_wp2
              go_meet
              exact ⟨rfl, C.out, N.out, F.out, P.out, K.out⟩
          case rest =>
            clear C N F P K G1 G2 G3 CP CN CRK
            obtain ⟨rfl, hC, hN, hF, hP, hK⟩ := hcut
            have C := Lib.hid hC
            have N := Lib.hid hN
            have F := Lib.hid hF
            have P := Lib.hid hP
            have K := Lib.hid hK
            clear hC hN hF hP hK PY PA Z41
            go_upto_region 18 with fail
            go_cut [120] (fun v wx => v = .bool false ∧ Blk wx w.heap.size 27 cc ∧ Blk wx (w.heap.size + 1) 31 kc ∧ Blk wx gF 73 fc ∧ Below w.heap.size w wx)
            case first => as_aux_lemma =>
              clear KV HXX CLY CL1 CLN CPI EQ LD
              rcases Bool.eq_false_or_eq_true gd with hg | hg
              · subst hg
                have CRT := Lib.hid (CR.out rfl)
                have PET := Lib.hid (PE.out rfl)
                clear CR PE
                refine wp_region_held (S := (fun w' : World => Below (wc.heap.size) wc w')) (by kernel_rfl) ?_
                change wpAnyH _ _ _ _ _ _ _ _ wc.drew
                have hy : Below wc.heap.size wc wc.drew := (Below.refl _ _).drew
                have hE0 : Below (wc.heap.size) wc wc.drew := (Below.refl _ _).drew
                clear hy
                generalize wc.drew = Y18x0 at hE0  ⊢
                have E0 := Lib.hid hE0
                clear hE0
                refine tkA 0 (?_) ?_ E0.out ?_
                rotate_left
                · (intro w1 hS; go_simp; try with_reducible rfl)
                simp only [Act.put, tS1, tS2, tS3]
                refine tkA 1 (?_) ?_ E0.out ?_
                rotate_left
                · (intro w1 hS; go_simp; try with_reducible rfl)
                simp only [Act.put, tS1, tS2, tS3]
                refine tkA 2 (?_) ?_ E0.out ?_
                rotate_left
                · (intro w1 hS; go_simp; try with_reducible rfl)
                simp only [Act.put, tS1, tS2, tS3]
                refine tkA 3 (?_) ?_ E0.out ?_
                rotate_left
                · (intro w1 hS; go_simp; try with_reducible rfl)
                simp only [Act.put, tS1, tS2, tS3]
                refine tkA 4 (?_) ?_ E0.out ?_
                rotate_left
                · (intro w1 hS; go_simp; try with_reducible rfl)
                simp only [Act.put, tS1, tS2, tS3]
                refine tkA 5 (?_) ?_ E0.out ?_
                rotate_left
                · (intro w1 hS; go_simp; try with_reducible rfl)
                simp only [Act.put, tS1, tS2, tS3]
                refine tkA 6 (.agg PC) ?_ E0.out ?_
                · (intro w1 hS; have hW := hS; exact exec_load 41 (.tmp 14) rfl _ rfl _ (run_blk_load (P := Try.prog) 41 (gP) _ (P.out.below hW P.out.lt) Try.underlying41 rfl PZ.out))
                simp only [Act.put, tS1, tS2, tS3]
                refine tkA 7 (.agg cc) ?_ E0.out ?_
                · (intro w1 hS; have hW := hS; exact exec_load 27 (.tmp 5) rfl _ rfl _ (run_blk_load (P := Try.prog) 27 (w.heap.size) _ (C.out.below hW C.out.lt) Try.underlying27 rfl IC.out))
                simp only [Act.put, tS1, tS2, tS3]
                refine tkA 8 (.agg kc) ?_ E0.out ?_
                · (intro w1 hS; have hW := hS; exact exec_load 31 (.tmp 7) rfl _ rfl _ (run_blk_load (P := Try.prog) 31 (w.heap.size + 1) _ (N.out.below hW N.out.lt) Try.underlying31 rfl IK.out))
                simp only [Act.put, tS1, tS2, tS3]
                refine tkA 9 (?_) ?_ E0.out ?_
                rotate_left
                · (intro w1 hS; go_simp; try with_reducible rfl)
                simp only [Act.put, tS1, tS2, tS3]
                refine tkO 10 (fun KK hK => ?_)
                go_simp
                refine (CRT.out Y18x0).mono ?_
                rintro e Y18x1 ⟨rfl, hy⟩
                have E1 := Lib.hid (E0.out.trans (hy.mono E0.out.size))
                have C1 := Lib.hid E1.out
                clear hy E0
                refine hK.out _ _ C1.out (fun _ => ?_)
                clear hK KK
                refine wpAnyH_mono (S' := (fun w' : World => Below Y18x1.heap.size Y18x1 w')) (fun w1 h => C1.out.trans (h.mono C1.out.size)) _ _ _ _ ?_
                clear C1
                try simp only [Act.put, tS1, tS2, tS3]
                refine tkA 11 (.bool false) ?_ (Below.refl _ _) ?_
                · (intro w1 hS; exact exec_neq (.tmp 83) (.tmp 87) rfl _ _ rfl rfl true (PET.out w1))
                simp only [Act.put, tS1, tS2, tS3]
                refine tkA 12 (?_) ?_ (Below.refl _ _) ?_
                rotate_left
                · (intro w1 hS; go_simp; try with_reducible rfl)
                simp only [Act.put, tS1, tS2, tS3]
                refine tkA 13 (?_) ?_ (Below.refl _ _) ?_
                rotate_left
                · (intro w1 hS; go_simp; try with_reducible rfl)
                simp only [Act.put, tS1, tS2, tS3]
                refine tkA 14 (?_) ?_ (Below.refl _ _) ?_
                rotate_left
                · (intro w1 hS; go_simp; try with_reducible rfl)
                simp only [Act.put, tS1, tS2, tS3]
                refine tkA 15 (?_) ?_ (Below.refl _ _) ?_
                rotate_left
                · (intro w1 hS; go_simp; try with_reducible rfl)
                simp only [Act.put, tS1, tS2, tS3]
                refine tkA 16 (.agg kc) ?_ (Below.refl _ _) ?_
                · (intro w1 hS; have hW := E1.out.trans (hS.mono E1.out.size); exact exec_load 31 (.tmp 7) rfl _ rfl _ (run_blk_load (P := Try.prog) 31 (w.heap.size + 1) _ (N.out.below hW N.out.lt) Try.underlying31 rfl IK.out))
                simp only [Act.put, tS1, tS2, tS3]
                refine tkA 18 (.agg cc) ?_ (Below.refl _ _) ?_
                · (intro w1 hS; have hW := E1.out.trans (hS.mono E1.out.size); exact exec_load 27 (.tmp 5) rfl _ rfl _ (run_blk_load (P := Try.prog) 27 (w.heap.size) _ (C.out.below hW C.out.lt) Try.underlying27 rfl IC.out))
                simp only [Act.put, tS1, tS2, tS3]
                refine tkA 19 (.agg kc) ?_ (Below.refl _ _) ?_
                · (intro w1 hS; have hW := E1.out.trans (hS.mono E1.out.size); exact exec_load 31 (.tmp 7) rfl _ rfl _ (run_blk_load (P := Try.prog) 31 (w.heap.size + 1) _ (N.out.below hW N.out.lt) Try.underlying31 rfl IK.out))
                simp only [Act.put, tS1, tS2, tS3]
                refine tkO 17 (fun KK hK => ?_)
                go_simp
                refine (CD.out gF Y18x1 (F.out.below E1.out F.out.lt)).mono ?_
                rintro e Y18x2 ⟨rfl, hy⟩
                have E2 := Lib.hid (E1.out.trans (hy.mono E1.out.size))
                have C2 := Lib.hid hy
                clear hy E1
                refine hK.out _ _ C2.out (fun _ => ?_)
                clear hK KK
                refine wpAnyH_mono (S' := (fun w' : World => Below Y18x2.heap.size Y18x2 w')) (fun w1 h => C2.out.trans (h.mono C2.out.size)) _ _ _ _ ?_
                clear C2
                try simp only [Act.put, tS1, tS2, tS3]
                refine tkO 20 (fun KK hK => ?_)
                go_simp
                refine (CRD.out Y18x2).mono ?_
                rintro e Y18x3 ⟨rfl, hy⟩
                have E3 := Lib.hid (E2.out.trans (hy.mono E2.out.size))
                have C3 := Lib.hid hy
                clear hy E2
                refine hK.out _ _ C3.out (fun _ => ?_)
                clear hK KK
                refine wpAnyH_mono (S' := (fun w' : World => Below Y18x3.heap.size Y18x3 w')) (fun w1 h => C3.out.trans (h.mono C3.out.size)) _ _ _ _ ?_
                clear C3
                try simp only [Act.put, tS1, tS2, tS3]
                refine tkA 21 (?_) ?_ (Below.refl _ _) ?_
                rotate_left
                · (intro w1 hS; go_simp; try with_reducible rfl)
                simp only [Act.put, tS1, tS2, tS3]
                refine tkA 22 (?_) ?_ (Below.refl _ _) ?_
                rotate_left
                · (intro w1 hS; go_simp; try with_reducible rfl)
                simp only [Act.put, tS1, tS2, tS3]
                refine tkA 23 (?_) ?_ (Below.refl _ _) ?_
                rotate_left
                · (intro w1 hS; go_simp; try with_reducible rfl)
                simp only [Act.put, tS1, tS2, tS3]
                refine tkA 24 (?_) ?_ (Below.refl _ _) ?_
                rotate_left
                · (intro w1 hS; go_simp; try with_reducible rfl)
                simp only [Act.put, tS1, tS2, tS3]
                refine tkA 25 (.agg kc) ?_ (Below.refl _ _) ?_
                · (intro w1 hS; have hW := E3.out.trans (hS.mono E3.out.size); exact exec_load 31 (.tmp 7) rfl _ rfl _ (run_blk_load (P := Try.prog) 31 (w.heap.size + 1) _ (N.out.below hW N.out.lt) Try.underlying31 rfl IK.out))
                simp only [Act.put, tS1, tS2, tS3]
                refine tkA 27 (.agg cc) ?_ (Below.refl _ _) ?_
                · (intro w1 hS; have hW := E3.out.trans (hS.mono E3.out.size); exact exec_load 27 (.tmp 5) rfl _ rfl _ (run_blk_load (P := Try.prog) 27 (w.heap.size) _ (C.out.below hW C.out.lt) Try.underlying27 rfl IC.out))
                simp only [Act.put, tS1, tS2, tS3]
                refine tkA 28 (.agg kc) ?_ (Below.refl _ _) ?_
                · (intro w1 hS; have hW := E3.out.trans (hS.mono E3.out.size); exact exec_load 31 (.tmp 7) rfl _ rfl _ (run_blk_load (P := Try.prog) 31 (w.heap.size + 1) _ (N.out.below hW N.out.lt) Try.underlying31 rfl IK.out))
                simp only [Act.put, tS1, tS2, tS3]
                refine tkO 26 (fun KK hK => ?_)
                go_simp
                refine (CB.out gF Y18x3 (F.out.below E3.out F.out.lt)).mono ?_
                rintro e Y18x4 ⟨x1, rfl, r1, hy⟩
                have E4 := Lib.hid (E3.out.trans (hy.mono E3.out.size))
                have C4 := Lib.hid hy
                have B1 := Lib.hid (r1)
                clear r1
                clear hy E3
                refine hK.out _ _ C4.out (fun _ => ?_)
                clear hK KK
                refine wpAnyH_mono (S' := (fun w' : World => Below Y18x4.heap.size Y18x4 w')) (fun w1 h => C4.out.trans (h.mono C4.out.size)) _ _ _ _ ?_
                clear C4
                try simp only [Act.put, tS1, tS2, tS3]
                refine tkO 29 (fun KK hK => ?_)
                go_simp
                refine (CRB.out Y18x4).mono ?_
                rintro e Y18x5 ⟨x2, rfl, r2, hy⟩
                replace B1 := Lib.hid (B1.out.below hy)
                have E5 := Lib.hid (E4.out.trans (hy.mono E4.out.size))
                have C5 := Lib.hid hy
                have B2 := Lib.hid (r2)
                clear r2
                clear hy E4
                refine hK.out _ _ C5.out (fun _ => ?_)
                clear hK KK
                refine wpAnyH_mono (S' := (fun w' : World => Below Y18x5.heap.size Y18x5 w')) (fun w1 h => C5.out.trans (h.mono C5.out.size)) _ _ _ _ ?_
                clear C5
                try simp only [Act.put, tS1, tS2, tS3]
                refine tkO 30 (fun KK hK => ?_)
                go_simp
                refine (CI.out x1 x2 Y18x5 B1.out B2.out).mono ?_
                rintro e Y18x6 ⟨rfl, hy⟩
                replace B1 := Lib.hid (B1.out.below hy)
                replace B2 := Lib.hid (B2.out.below hy)
                have E6 := Lib.hid (E5.out.trans (hy.mono E5.out.size))
                have C6 := Lib.hid hy
                clear hy E5
                refine hK.out _ _ C6.out (fun _ => ?_)
                clear hK KK
                refine wpAnyH_mono (S' := (fun w' : World => Below Y18x6.heap.size Y18x6 w')) (fun w1 h => C6.out.trans (h.mono C6.out.size)) _ _ _ _ ?_
                clear C6
                try simp only [Act.put, tS1, tS2, tS3]
                refine tkA 31 (?_) ?_ (Below.refl _ _) ?_
                rotate_left
                · (intro w1 hS; go_simp; try with_reducible rfl)
                simp only [Act.put, tS1, tS2, tS3]
                refine tkA 32 (?_) ?_ (Below.refl _ _) ?_
                rotate_left
                · (intro w1 hS; go_simp; try with_reducible rfl)
                simp only [Act.put, tS1, tS2, tS3]
                refine tkA 33 (?_) ?_ (Below.refl _ _) ?_
                rotate_left
                · (intro w1 hS; go_simp; try with_reducible rfl)
                simp only [Act.put, tS1, tS2, tS3]
                refine tkA 34 (?_) ?_ (Below.refl _ _) ?_
                rotate_left
                · (intro w1 hS; go_simp; try with_reducible rfl)
                simp only [Act.put, tS1, tS2, tS3]
                refine tkA 35 (.agg kc) ?_ (Below.refl _ _) ?_
                · (intro w1 hS; have hW := E6.out.trans (hS.mono E6.out.size); exact exec_load 31 (.tmp 7) rfl _ rfl _ (run_blk_load (P := Try.prog) 31 (w.heap.size + 1) _ (N.out.below hW N.out.lt) Try.underlying31 rfl IK.out))
                simp only [Act.put, tS1, tS2, tS3]
                refine tkA 36 (?_) ?_ (Below.refl _ _) ?_
                rotate_left
                · (intro w1 hS; go_simp; try with_reducible rfl)
                simp only [Act.put, tS1, tS2, tS3]
                refine tkA 38 (.agg cc) ?_ (Below.refl _ _) ?_
                · (intro w1 hS; have hW := E6.out.trans (hS.mono E6.out.size); exact exec_load 27 (.tmp 5) rfl _ rfl _ (run_blk_load (P := Try.prog) 27 (w.heap.size) _ (C.out.below hW C.out.lt) Try.underlying27 rfl IC.out))
                simp only [Act.put, tS1, tS2, tS3]
                refine tkA 39 (.agg kc) ?_ (Below.refl _ _) ?_
                · (intro w1 hS; have hW := E6.out.trans (hS.mono E6.out.size); exact exec_load 31 (.tmp 7) rfl _ rfl _ (run_blk_load (P := Try.prog) 31 (w.heap.size + 1) _ (N.out.below hW N.out.lt) Try.underlying31 rfl IK.out))
                simp only [Act.put, tS1, tS2, tS3]
                refine tkA 40 (?_) ?_ (Below.refl _ _) ?_
                rotate_left
                · (intro w1 hS; go_simp; try with_reducible rfl)
                simp only [Act.put, tS1, tS2, tS3]
                refine tkO 37 (fun KK hK => ?_)
                go_simp
                refine (CS.out gF Y18x6 (F.out.below E6.out F.out.lt)).mono ?_
                rintro e Y18x7 ⟨rfl, hy⟩
                replace B1 := Lib.hid (B1.out.below hy)
                replace B2 := Lib.hid (B2.out.below hy)
                have E7 := Lib.hid (E6.out.trans (hy.mono E6.out.size))
                have C7 := Lib.hid hy
                clear hy E6
                refine hK.out _ _ C7.out (fun _ => ?_)
                clear hK KK
                refine wpAnyH_mono (S' := (fun w' : World => Below Y18x7.heap.size Y18x7 w')) (fun w1 h => C7.out.trans (h.mono C7.out.size)) _ _ _ _ ?_
                clear C7
                try simp only [Act.put, tS1, tS2, tS3]
                refine tkO 41 (fun KK hK => ?_)
                go_simp
                refine (CRS.out Y18x7).mono ?_
                rintro e Y18x8 ⟨rfl, hy⟩
                replace B1 := Lib.hid (B1.out.below hy)
                replace B2 := Lib.hid (B2.out.below hy)
                have E8 := Lib.hid (E7.out.trans (hy.mono E7.out.size))
                have C8 := Lib.hid hy
                clear hy E7
                refine hK.out _ _ C8.out (fun _ => ?_)
                clear hK KK
                refine wpAnyH_mono (S' := (fun w' : World => Below Y18x8.heap.size Y18x8 w')) (fun w1 h => C8.out.trans (h.mono C8.out.size)) _ _ _ _ ?_
                clear C8
                try simp only [Act.put, tS1, tS2, tS3]
                refine tkA 42 (?_) ?_ (Below.refl _ _) ?_
                rotate_left
                · (intro w1 hS; go_simp; try with_reducible rfl)
                simp only [Act.put, tS1, tS2, tS3]
                refine tkA 43 (?_) ?_ (Below.refl _ _) ?_
                rotate_left
                · (intro w1 hS; go_simp; try with_reducible rfl)
                simp only [Act.put, tS1, tS2, tS3]
                refine wpAnyH_done (by kernel_rfl) ?_ _
                have hy := E8.out
                replace C := Lib.hid (C.out.below hy C.out.lt)
                replace N := Lib.hid (N.out.below hy N.out.lt)
                replace K := Lib.hid (K.out.trans (hy.mono K.out.size))
                replace F := Lib.hid (F.out.below hy F.out.lt)
                replace P := Lib.hid (P.out.below hy P.out.lt)
                clear hy E8
                go_wp2
                go_meet
                exact ⟨rfl, C.out, N.out, F.out, K.out⟩
              · subst hg
                clear CR PE
                refine wp_region_held (S := (fun w' : World => Below (wc.heap.size) wc w')) (by kernel_rfl) ?_
                change wpAnyH _ _ _ _ _ _ _ _ wc.drew
                have hy : Below wc.heap.size wc wc.drew := (Below.refl _ _).drew
                have hE0 : Below (wc.heap.size) wc wc.drew := (Below.refl _ _).drew
                clear hy
                generalize wc.drew = Y18x0 at hE0  ⊢
                have E0 := Lib.hid hE0
                clear hE0
                refine tkA 0 (?_) ?_ E0.out ?_
                rotate_left
                · (intro w1 hS; go_simp; try with_reducible rfl)
                simp only [Act.put, tS1, tS2, tS3]
                refine tkA 1 (?_) ?_ E0.out ?_
                rotate_left
                · (intro w1 hS; go_simp; try with_reducible rfl)
                simp only [Act.put, tS1, tS2, tS3]
                refine tkA 2 (?_) ?_ E0.out ?_
                rotate_left
                · (intro w1 hS; go_simp; try with_reducible rfl)
                simp only [Act.put, tS1, tS2, tS3]
                refine tkA 3 (?_) ?_ E0.out ?_
                rotate_left
                · (intro w1 hS; go_simp; try with_reducible rfl)
                simp only [Act.put, tS1, tS2, tS3]
                refine tkA 4 (?_) ?_ E0.out ?_
                rotate_left
                · (intro w1 hS; go_simp; try with_reducible rfl)
                simp only [Act.put, tS1, tS2, tS3]
                refine tkA 5 (?_) ?_ E0.out ?_
                rotate_left
                · (intro w1 hS; go_simp; try with_reducible rfl)
                simp only [Act.put, tS1, tS2, tS3]
                refine tkN 6 E0.out ?_
                simp only [Act.put, tS1, tS2, tS3]
                refine tkN 7 E0.out ?_
                simp only [Act.put, tS1, tS2, tS3]
                refine tkN 8 E0.out ?_
                simp only [Act.put, tS1, tS2, tS3]
                refine tkN 9 E0.out ?_
                simp only [Act.put, tS1, tS2, tS3]
                refine tkN 10 E0.out ?_
                simp only [Act.put, tS1, tS2, tS3]
                refine tkN 11 E0.out ?_
                simp only [Act.put, tS1, tS2, tS3]
                refine tkA 12 (?_) ?_ E0.out ?_
                rotate_left
                · (intro w1 hS; go_simp; try with_reducible rfl)
                simp only [Act.put, tS1, tS2, tS3]
                refine tkA 13 (?_) ?_ E0.out ?_
                rotate_left
                · (intro w1 hS; go_simp; try with_reducible rfl)
                simp only [Act.put, tS1, tS2, tS3]
                refine tkA 14 (?_) ?_ E0.out ?_
                rotate_left
                · (intro w1 hS; go_simp; try with_reducible rfl)
                simp only [Act.put, tS1, tS2, tS3]
                refine tkA 15 (?_) ?_ E0.out ?_
                rotate_left
                · (intro w1 hS; go_simp; try with_reducible rfl)
                simp only [Act.put, tS1, tS2, tS3]
                refine tkA 16 (.agg kc) ?_ E0.out ?_
                · (intro w1 hS; have hW := hS; exact exec_load 31 (.tmp 7) rfl _ rfl _ (run_blk_load (P := Try.prog) 31 (w.heap.size + 1) _ (N.out.below hW N.out.lt) Try.underlying31 rfl IK.out))
                simp only [Act.put, tS1, tS2, tS3]
                refine tkA 18 (.agg cc) ?_ E0.out ?_
                · (intro w1 hS; have hW := hS; exact exec_load 27 (.tmp 5) rfl _ rfl _ (run_blk_load (P := Try.prog) 27 (w.heap.size) _ (C.out.below hW C.out.lt) Try.underlying27 rfl IC.out))
                simp only [Act.put, tS1, tS2, tS3]
                refine tkA 19 (.agg kc) ?_ E0.out ?_
                · (intro w1 hS; have hW := hS; exact exec_load 31 (.tmp 7) rfl _ rfl _ (run_blk_load (P := Try.prog) 31 (w.heap.size + 1) _ (N.out.below hW N.out.lt) Try.underlying31 rfl IK.out))
                simp only [Act.put, tS1, tS2, tS3]
                refine tkO 17 (fun KK hK => ?_)
                go_simp
                refine (CD.out gF Y18x0 (F.out.below E0.out F.out.lt)).mono ?_
                rintro e Y18x1 ⟨rfl, hy⟩
                have E1 := Lib.hid (E0.out.trans (hy.mono E0.out.size))
                have C1 := Lib.hid E1.out
                clear hy E0
                refine hK.out _ _ C1.out (fun _ => ?_)
                clear hK KK
                refine wpAnyH_mono (S' := (fun w' : World => Below Y18x1.heap.size Y18x1 w')) (fun w1 h => C1.out.trans (h.mono C1.out.size)) _ _ _ _ ?_
                clear C1
                try simp only [Act.put, tS1, tS2, tS3]
                refine tkO 20 (fun KK hK => ?_)
                go_simp
                refine (CRD.out Y18x1).mono ?_
                rintro e Y18x2 ⟨rfl, hy⟩
                have E2 := Lib.hid (E1.out.trans (hy.mono E1.out.size))
                have C2 := Lib.hid hy
                clear hy E1
                refine hK.out _ _ C2.out (fun _ => ?_)
                clear hK KK
                refine wpAnyH_mono (S' := (fun w' : World => Below Y18x2.heap.size Y18x2 w')) (fun w1 h => C2.out.trans (h.mono C2.out.size)) _ _ _ _ ?_
                clear C2
                try simp only [Act.put, tS1, tS2, tS3]
                refine tkA 21 (?_) ?_ (Below.refl _ _) ?_
                rotate_left
                · (intro w1 hS; go_simp; try with_reducible rfl)
                simp only [Act.put, tS1, tS2, tS3]
                refine tkA 22 (?_) ?_ (Below.refl _ _) ?_
                rotate_left
                · (intro w1 hS; go_simp; try with_reducible rfl)
                simp only [Act.put, tS1, tS2, tS3]
                refine tkA 23 (?_) ?_ (Below.refl _ _) ?_
                rotate_left
                · (intro w1 hS; go_simp; try with_reducible rfl)
                simp only [Act.put, tS1, tS2, tS3]
                refine tkA 24 (?_) ?_ (Below.refl _ _) ?_
                rotate_left
                · (intro w1 hS; go_simp; try with_reducible rfl)
                simp only [Act.put, tS1, tS2, tS3]
                refine tkA 25 (.agg kc) ?_ (Below.refl _ _) ?_
                · (intro w1 hS; have hW := E2.out.trans (hS.mono E2.out.size); exact exec_load 31 (.tmp 7) rfl _ rfl _ (run_blk_load (P := Try.prog) 31 (w.heap.size + 1) _ (N.out.below hW N.out.lt) Try.underlying31 rfl IK.out))
                simp only [Act.put, tS1, tS2, tS3]
                refine tkA 27 (.agg cc) ?_ (Below.refl _ _) ?_
                · (intro w1 hS; have hW := E2.out.trans (hS.mono E2.out.size); exact exec_load 27 (.tmp 5) rfl _ rfl _ (run_blk_load (P := Try.prog) 27 (w.heap.size) _ (C.out.below hW C.out.lt) Try.underlying27 rfl IC.out))
                simp only [Act.put, tS1, tS2, tS3]
                refine tkA 28 (.agg kc) ?_ (Below.refl _ _) ?_
                · (intro w1 hS; have hW := E2.out.trans (hS.mono E2.out.size); exact exec_load 31 (.tmp 7) rfl _ rfl _ (run_blk_load (P := Try.prog) 31 (w.heap.size + 1) _ (N.out.below hW N.out.lt) Try.underlying31 rfl IK.out))
                simp only [Act.put, tS1, tS2, tS3]
                refine tkO 26 (fun KK hK => ?_)
                go_simp
                refine (CB.out gF Y18x2 (F.out.below E2.out F.out.lt)).mono ?_
                rintro e Y18x3 ⟨x1, rfl, r1, hy⟩
                have E3 := Lib.hid (E2.out.trans (hy.mono E2.out.size))
                have C3 := Lib.hid hy
                have B1 := Lib.hid (r1)
                clear r1
                clear hy E2
                refine hK.out _ _ C3.out (fun _ => ?_)
                clear hK KK
                refine wpAnyH_mono (S' := (fun w' : World => Below Y18x3.heap.size Y18x3 w')) (fun w1 h => C3.out.trans (h.mono C3.out.size)) _ _ _ _ ?_
                clear C3
                try simp only [Act.put, tS1, tS2, tS3]
                refine tkO 29 (fun KK hK => ?_)
                go_simp
                refine (CRB.out Y18x3).mono ?_
                rintro e Y18x4 ⟨x2, rfl, r2, hy⟩
                replace B1 := Lib.hid (B1.out.below hy)
                have E4 := Lib.hid (E3.out.trans (hy.mono E3.out.size))
                have C4 := Lib.hid hy
                have B2 := Lib.hid (r2)
                clear r2
                clear hy E3
                refine hK.out _ _ C4.out (fun _ => ?_)
                clear hK KK
                refine wpAnyH_mono (S' := (fun w' : World => Below Y18x4.heap.size Y18x4 w')) (fun w1 h => C4.out.trans (h.mono C4.out.size)) _ _ _ _ ?_
                clear C4
                try simp only [Act.put, tS1, tS2, tS3]
                refine tkO 30 (fun KK hK => ?_)
                go_simp
                refine (CI.out x1 x2 Y18x4 B1.out B2.out).mono ?_
                rintro e Y18x5 ⟨rfl, hy⟩
                replace B1 := Lib.hid (B1.out.below hy)
                replace B2 := Lib.hid (B2.out.below hy)
                have E5 := Lib.hid (E4.out.trans (hy.mono E4.out.size))
                have C5 := Lib.hid hy
                clear hy E4
                refine hK.out _ _ C5.out (fun _ => ?_)
                clear hK KK
                refine wpAnyH_mono (S' := (fun w' : World => Below Y18x5.heap.size Y18x5 w')) (fun w1 h => C5.out.trans (h.mono C5.out.size)) _ _ _ _ ?_
                clear C5
                try simp only [Act.put, tS1, tS2, tS3]
                refine tkA 31 (?_) ?_ (Below.refl _ _) ?_
                rotate_left
                · (intro w1 hS; go_simp; try with_reducible rfl)
                simp only [Act.put, tS1, tS2, tS3]
                refine tkA 32 (?_) ?_ (Below.refl _ _) ?_
                rotate_left
                · (intro w1 hS; go_simp; try with_reducible rfl)
                simp only [Act.put, tS1, tS2, tS3]
                refine tkA 33 (?_) ?_ (Below.refl _ _) ?_
                rotate_left
                · (intro w1 hS; go_simp; try with_reducible rfl)
                simp only [Act.put, tS1, tS2, tS3]
                refine tkA 34 (?_) ?_ (Below.refl _ _) ?_
                rotate_left
                · (intro w1 hS; go_simp; try with_reducible rfl)
                simp only [Act.put, tS1, tS2, tS3]
                refine tkA 35 (.agg kc) ?_ (Below.refl _ _) ?_
                · (intro w1 hS; have hW := E5.out.trans (hS.mono E5.out.size); exact exec_load 31 (.tmp 7) rfl _ rfl _ (run_blk_load (P := Try.prog) 31 (w.heap.size + 1) _ (N.out.below hW N.out.lt) Try.underlying31 rfl IK.out))
                simp only [Act.put, tS1, tS2, tS3]
                refine tkA 36 (?_) ?_ (Below.refl _ _) ?_
                rotate_left
                · (intro w1 hS; go_simp; try with_reducible rfl)
                simp only [Act.put, tS1, tS2, tS3]
                refine tkA 38 (.agg cc) ?_ (Below.refl _ _) ?_
                · (intro w1 hS; have hW := E5.out.trans (hS.mono E5.out.size); exact exec_load 27 (.tmp 5) rfl _ rfl _ (run_blk_load (P := Try.prog) 27 (w.heap.size) _ (C.out.below hW C.out.lt) Try.underlying27 rfl IC.out))
                simp only [Act.put, tS1, tS2, tS3]
                refine tkA 39 (.agg kc) ?_ (Below.refl _ _) ?_
                · (intro w1 hS; have hW := E5.out.trans (hS.mono E5.out.size); exact exec_load 31 (.tmp 7) rfl _ rfl _ (run_blk_load (P := Try.prog) 31 (w.heap.size + 1) _ (N.out.below hW N.out.lt) Try.underlying31 rfl IK.out))
                simp only [Act.put, tS1, tS2, tS3]
                refine tkA 40 (?_) ?_ (Below.refl _ _) ?_
                rotate_left
                · (intro w1 hS; go_simp; try with_reducible rfl)
                simp only [Act.put, tS1, tS2, tS3]
                refine tkO 37 (fun KK hK => ?_)
                go_simp
                refine (CS.out gF Y18x5 (F.out.below E5.out F.out.lt)).mono ?_
                rintro e Y18x6 ⟨rfl, hy⟩
                replace B1 := Lib.hid (B1.out.below hy)
                replace B2 := Lib.hid (B2.out.below hy)
                have E6 := Lib.hid (E5.out.trans (hy.mono E5.out.size))
                have C6 := Lib.hid hy
                clear hy E5
                refine hK.out _ _ C6.out (fun _ => ?_)
                clear hK KK
                refine wpAnyH_mono (S' := (fun w' : World => Below Y18x6.heap.size Y18x6 w')) (fun w1 h => C6.out.trans (h.mono C6.out.size)) _ _ _ _ ?_
                clear C6
                try simp only [Act.put, tS1, tS2, tS3]
                refine tkO 41 (fun KK hK => ?_)
                go_simp
                refine (CRS.out Y18x6).mono ?_
                rintro e Y18x7 ⟨rfl, hy⟩
                replace B1 := Lib.hid (B1.out.below hy)
                replace B2 := Lib.hid (B2.out.below hy)
                have E7 := Lib.hid (E6.out.trans (hy.mono E6.out.size))
                have C7 := Lib.hid hy
                clear hy E6
                refine hK.out _ _ C7.out (fun _ => ?_)
                clear hK KK
                refine wpAnyH_mono (S' := (fun w' : World => Below Y18x7.heap.size Y18x7 w')) (fun w1 h => C7.out.trans (h.mono C7.out.size)) _ _ _ _ ?_
                clear C7
                try simp only [Act.put, tS1, tS2, tS3]
                refine tkA 42 (?_) ?_ (Below.refl _ _) ?_
                rotate_left
                · (intro w1 hS; go_simp; try with_reducible rfl)
                simp only [Act.put, tS1, tS2, tS3]
                refine tkA 43 (?_) ?_ (Below.refl _ _) ?_
                rotate_left
                · (intro w1 hS; go_simp; try with_reducible rfl)
                simp only [Act.put, tS1, tS2, tS3]
                refine wpAnyH_done (by kernel_rfl) ?_ _
                have hy := E7.out
                replace C := Lib.hid (C.out.below hy C.out.lt)
                replace N := Lib.hid (N.out.below hy N.out.lt)
                replace K := Lib.hid (K.out.trans (hy.mono K.out.size))
                replace F := Lib.hid (F.out.below hy F.out.lt)
                replace P := Lib.hid (P.out.below hy P.out.lt)
                clear hy E7
                go_wp2
                go_meet
                exact ⟨rfl, C.out, N.out, F.out, K.out⟩
            case rest => as_aux_lemma =>
              clear C N F P K CR PE CD CRD CB CRB CI CS CRS e1 e2 e3 PZ
              obtain ⟨rfl, hC, hN, hF, hK⟩ := hcut
              have C := Lib.hid hC
              have N := Lib.hid hN
              have F := Lib.hid hF
              have K := Lib.hid hK
              clear hC hN hF hK
              rcases Bool.eq_false_or_eq_true vk with hvk | hvk
              · subst hvk
                have CX := Lib.hid (CLY.out rfl)
                have CY := Lib.hid (CL1.out rfl)
                clear CLY CL1 CLN
                have e3 : ((s : Int) != (s : Int)) = false := by simp
                have i1 : (0 : Int) < (s : Int) := by omega
                have i2 : 0 < s := by omega
                go_upto_region 20 with fail
                refine wp_region_held (S := (fun w' : World => Below (wc.heap.size) wc w')) (by kernel_rfl) ?_
                change wpAnyH _ _ _ _ _ _ _ _ wc.drew
                have hy : Below wc.heap.size wc wc.drew := (Below.refl _ _).drew
                have hE0 : Below (wc.heap.size) wc wc.drew := (Below.refl _ _).drew
                clear hy
                generalize wc.drew = Y20x0 at hE0  ⊢
                have E0 := Lib.hid hE0
                clear hE0
                refine tkA 0 (?_) ?_ E0.out ?_
                rotate_left
                · (intro w1 hS; go_simp; try with_reducible rfl)
                simp only [Act.put, tS1, tS2, tS3]
                refine tkA 1 (.agg kc) ?_ E0.out ?_
                · (intro w1 hS; have hW := hS; exact exec_load 31 (.tmp 7) rfl _ rfl _ (run_blk_load (P := Try.prog) 31 (w.heap.size + 1) _ (N.out.below hW N.out.lt) Try.underlying31 rfl IK.out))
                simp only [Act.put, tS1, tS2, tS3]
                refine tkA 3 (?_) ?_ E0.out ?_
                rotate_left
                · (intro w1 hS; go_simp; try with_reducible rfl)
                simp only [Act.put, tS1, tS2, tS3]
                refine tkA 4 (.agg kc) ?_ E0.out ?_
                · (intro w1 hS; have hW := hS; exact exec_load 31 (.tmp 7) rfl _ rfl _ (run_blk_load (P := Try.prog) 31 (w.heap.size + 1) _ (N.out.below hW N.out.lt) Try.underlying31 rfl IK.out))
                simp only [Act.put, tS1, tS2, tS3]
                refine tkO 2 (fun KK hK => ?_)
                go_simp
                refine (CX.out gF Y20x0 (F.out.below E0.out F.out.lt)).mono ?_
                rintro e Y20x1 ⟨gX, cpX, cuX, rfl, hx, hcx, hy⟩
                have E1 := Lib.hid (E0.out.trans (hy.mono E0.out.size))
                have C1 := Lib.hid E1.out
                have X := Lib.hid (hx)
                have CX2 := Lib.hid hcx
                clear hx hcx
                clear hy E0
                refine hK.out _ _ C1.out (fun _ => ?_)
                clear hK KK
                refine wpAnyH_mono (S' := (fun w' : World => Below Y20x1.heap.size Y20x1 w')) (fun w1 h => C1.out.trans (h.mono C1.out.size)) _ _ _ _ ?_
                clear C1
                try simp only [Act.put, tS1, tS2, tS3]
                refine tkO 5 (fun KK hK => ?_)
                go_simp
                refine (CY.out gF Y20x1 (F.out.below E1.out F.out.lt)).mono ?_
                rintro e Y20x2 ⟨gY, cpY, cuY, rfl, hx, hcx, hy⟩
                replace X := Lib.hid (X.out.below hy X.out.lt)
                have E2 := Lib.hid (E1.out.trans (hy.mono E1.out.size))
                have C2 := Lib.hid hy
                have Y := Lib.hid (hx)
                have CY2 := Lib.hid hcx
                clear hx hcx
                clear hy E1
                refine hK.out _ _ C2.out (fun _ => ?_)
                clear hK KK
                refine wpAnyH_mono (S' := (fun w' : World => Below Y20x2.heap.size Y20x2 w')) (fun w1 h => C2.out.trans (h.mono C2.out.size)) _ _ _ _ ?_
                clear C2
                try simp only [Act.put, tS1, tS2, tS3]
                refine tkA 6 (?_) ?_ (Below.refl _ _) ?_
                rotate_left
                · (intro w1 hS; go_simp; try with_reducible rfl)
                simp only [Act.put, tS1, tS2, tS3]
                refine tkA 7 (?_) ?_ (Below.refl _ _) ?_
                rotate_left
                · (intro w1 hS; go_simp; try with_reducible rfl)
                simp only [Act.put, tS1, tS2, tS3]
                refine wpAnyH_done (by kernel_rfl) ?_ _
                have hy := E2.out
                replace C := Lib.hid (C.out.below hy C.out.lt)
                replace N := Lib.hid (N.out.below hy N.out.lt)
                replace K := Lib.hid (K.out.trans (hy.mono K.out.size))
                replace F := Lib.hid (F.out.below hy F.out.lt)
                clear hy E2
                obtain ⟨x0, x1⟩ := CX2.out 0 i2
                obtain ⟨y0, y1⟩ := CY2.out 0 (by omega)
                have LX : Hid (∀ W, Blk W gX 41 cuX → (loadVar 41 ⟨gX, 0, none⟩).run Try.prog W = .ok (.agg #[.int .i64 ((0 : Nat) : Int), .int .i64 ((f 0 : Nat) : Int)]) W) := fun W hb => LD.out gX 0 cuX W hb x0 x1
                have LY : Hid (∀ W, Blk W gY 41 cuY → (loadVar 41 ⟨gY, 0, none⟩).run Try.prog W = .ok (.agg #[.int .i64 ((0 : Nat) : Int), .int .i64 ((f 0 : Nat) : Int)]) W) := fun W hb => LD.out gY 0 cuY W hb y0 y1
                have EQ0 := Lib.hid (EQ.out 0 i2)
                generalize (#[.int .i64 ((0 : Nat) : Int), .int .i64 ((f 0 : Nat) : Int)] : Array Value) = PX at LX LY EQ0
                clear x0 x1 y0 y1 CY2 F
                go_upto_region 21 with fail
                refine wp_region_held (S := (fun w' : World => Below (Y20x2.heap.size) Y20x2 w')) (by kernel_rfl) ?_
                change wpAnyH _ _ _ _ _ _ _ _ Y20x2.drew
                have hy : Below Y20x2.heap.size Y20x2 Y20x2.drew := (Below.refl _ _).drew
                have hE0 : Below (Y20x2.heap.size) Y20x2 Y20x2.drew := (Below.refl _ _).drew
                clear hy
                generalize Y20x2.drew = Y21x0 at hE0  ⊢
                have E0 := Lib.hid hE0
                clear hE0
                refine tkA 0 (.agg kc) ?_ E0.out ?_
                · (intro w1 hS; have hW := hS; exact exec_load 31 (.tmp 7) rfl _ rfl _ (run_blk_load (P := Try.prog) 31 (w.heap.size + 1) _ (N.out.below hW N.out.lt) Try.underlying31 rfl IK.out))
                simp only [Act.put, tS1, tS2, tS3]
                refine tkO 1 (fun KK hK => ?_)
                go_simp
                refine (KV.out Y21x0).mono ?_
                rintro e Y21x1 ⟨rfl, hy⟩
                have E1 := Lib.hid (E0.out.trans (hy.mono E0.out.size))
                have C1 := Lib.hid E1.out
                clear hy E0
                refine hK.out _ _ C1.out (fun _ => ?_)
                clear hK KK
                refine wpAnyH_mono (S' := (fun w' : World => Below Y21x1.heap.size Y21x1 w')) (fun w1 h => C1.out.trans (h.mono C1.out.size)) _ _ _ _ ?_
                clear C1
                try simp only [Act.put, tS1, tS2, tS3]
                refine tkA 2 (?_) ?_ (Below.refl _ _) ?_
                rotate_left
                · (intro w1 hS; go_simp; try with_reducible rfl)
                simp only [Act.put, tS1, tS2, tS3]
                refine tkA 3 (?_) ?_ (Below.refl _ _) ?_
                rotate_left
                · (intro w1 hS; go_simp; try with_reducible rfl)
                simp only [Act.put, tS1, tS2, tS3]
                refine tkA 4 (?_) ?_ (Below.refl _ _) ?_
                rotate_left
                · (intro w1 hS; go_simp; try with_reducible rfl)
                simp only [Act.put, tS1, tS2, tS3]
                refine tkA 5 (?_) ?_ (Below.refl _ _) ?_
                rotate_left
                · (intro w1 hS; go_simp; try with_reducible rfl)
                simp only [Act.put, tS1, tS2, tS3]
                refine tkA 6 (?_) ?_ (Below.refl _ _) ?_
                rotate_left
                · (intro w1 hS; have hW := E1.out.trans (hS.mono E1.out.size); have q := ((C.out.below hW C.out.lt).cell 0).trans Q0.out; clear hW hS; go_simp; try with_reducible rfl)
                simp only [Act.put, tS1, tS2, tS3]
                refine tkA 7 (?_) ?_ (Below.refl _ _) ?_
                rotate_left
                · (intro w1 hS; go_simp; try with_reducible rfl)
                simp only [Act.put, tS1, tS2, tS3]
                refine tkA 8 (?_) ?_ (Below.refl _ _) ?_
                rotate_left
                · (intro w1 hS; go_simp; try with_reducible rfl)
                simp only [Act.put, tS1, tS2, tS3]
                refine tkA 9 (?_) ?_ (Below.refl _ _) ?_
                rotate_left
                · (intro w1 hS; go_simp; try with_reducible rfl)
                simp only [Act.put, tS1, tS2, tS3]
                refine tkA 10 (?_) ?_ (Below.refl _ _) ?_
                rotate_left
                · (intro w1 hS; go_simp; try with_reducible rfl)
                simp only [Act.put, tS1, tS2, tS3]
                refine tkA 11 (?_) ?_ (Below.refl _ _) ?_
                rotate_left
                · (intro w1 hS; go_simp; try with_reducible rfl)
                simp only [Act.put, tS1, tS2, tS3]
                refine tkA 12 (?_) ?_ (Below.refl _ _) ?_
                rotate_left
                · (intro w1 hS; go_simp; try with_reducible rfl)
                simp only [Act.put, tS1, tS2, tS3]
                refine tkA 13 (?_) ?_ (Below.refl _ _) ?_
                rotate_left
                · (intro w1 hS; go_simp; try with_reducible rfl)
                simp only [Act.put, tS1, tS2, tS3]
                refine tkA 14 (?_) ?_ (Below.refl _ _) ?_
                rotate_left
                · (intro w1 hS; go_simp; try with_reducible rfl)
                simp only [Act.put, tS1, tS2, tS3]
                refine tkA 15 (?_) ?_ (Below.refl _ _) ?_
                rotate_left
                · (intro w1 hS; go_simp; try with_reducible rfl)
                simp only [Act.put, tS1, tS2, tS3]
                refine tkA 16 (.agg PX) ?_ (Below.refl _ _) ?_
                · (intro w1 hS; have hW := E1.out.trans (hS.mono E1.out.size); exact exec_load 41 (.tmp 142) rfl _ rfl _ (LY.out _ (Y.out.below hW Y.out.lt)))
                simp only [Act.put, tS1, tS2, tS3]
                refine tkA 17 (?_) ?_ (Below.refl _ _) ?_
                rotate_left
                · (intro w1 hS; go_simp; try with_reducible rfl)
                simp only [Act.put, tS1, tS2, tS3]
                refine tkA 18 (?_) ?_ (Below.refl _ _) ?_
                rotate_left
                · (intro w1 hS; go_simp; try with_reducible rfl)
                simp only [Act.put, tS1, tS2, tS3]
                refine tkA 19 (.agg PX) ?_ (Below.refl _ _) ?_
                · (intro w1 hS; have hW := E1.out.trans (hS.mono E1.out.size); exact exec_load 41 (.tmp 145) rfl _ rfl _ (LX.out _ (X.out.below hW X.out.lt)))
                simp only [Act.put, tS1, tS2, tS3]
                refine tkA 20 (.bool false) ?_ (Below.refl _ _) ?_
                · (intro w1 hS; exact exec_neq (.tmp 143) (.tmp 146) rfl _ _ rfl rfl true (EQ0.out w1))
                simp only [Act.put, tS1, tS2, tS3]
                refine tkA 21 (?_) ?_ (Below.refl _ _) ?_
                rotate_left
                · (intro w1 hS; go_simp; try with_reducible rfl)
                simp only [Act.put, tS1, tS2, tS3]
                refine tkA 22 (?_) ?_ (Below.refl _ _) ?_
                rotate_left
                · (intro w1 hS; go_simp; try with_reducible rfl)
                simp only [Act.put, tS1, tS2, tS3]
                refine tkA 23 (?_) ?_ (Below.refl _ _) ?_
                rotate_left
                · (intro w1 hS; go_simp; try with_reducible rfl)
                simp only [Act.put, tS1, tS2, tS3]
                refine tkA 24 (.agg kc) ?_ (Below.refl _ _) ?_
                · (intro w1 hS; have hW := E1.out.trans (hS.mono E1.out.size); exact exec_load 31 (.tmp 7) rfl _ rfl _ (run_blk_load (P := Try.prog) 31 (w.heap.size + 1) _ (N.out.below hW N.out.lt) Try.underlying31 rfl IK.out))
                simp only [Act.put, tS1, tS2, tS3]
                refine tkO 25 (fun KK hK => ?_)
                go_simp
                refine (KV.out Y21x1).mono ?_
                rintro e Y21x2 ⟨rfl, hy⟩
                have E2 := Lib.hid (E1.out.trans (hy.mono E1.out.size))
                have C2 := Lib.hid hy
                clear hy E1
                refine hK.out _ _ C2.out (fun _ => ?_)
                clear hK KK
                refine wpAnyH_mono (S' := (fun w' : World => Below Y21x2.heap.size Y21x2 w')) (fun w1 h => C2.out.trans (h.mono C2.out.size)) _ _ _ _ ?_
                clear C2
                try simp only [Act.put, tS1, tS2, tS3]
                refine tkA 26 (?_) ?_ (Below.refl _ _) ?_
                rotate_left
                · (intro w1 hS; go_simp; try with_reducible rfl)
                simp only [Act.put, tS1, tS2, tS3]
                refine tkA 27 (?_) ?_ (Below.refl _ _) ?_
                rotate_left
                · (intro w1 hS; go_simp; try with_reducible rfl)
                simp only [Act.put, tS1, tS2, tS3]
                refine tkN 28 (Below.refl _ _) ?_
                simp only [Act.put, tS1, tS2, tS3]
                refine tkN 29 (Below.refl _ _) ?_
                simp only [Act.put, tS1, tS2, tS3]
                refine tkN 30 (Below.refl _ _) ?_
                simp only [Act.put, tS1, tS2, tS3]
                refine tkN 31 (Below.refl _ _) ?_
                simp only [Act.put, tS1, tS2, tS3]
                refine tkN 32 (Below.refl _ _) ?_
                simp only [Act.put, tS1, tS2, tS3]
                refine tkN 33 (Below.refl _ _) ?_
                simp only [Act.put, tS1, tS2, tS3]
                refine tkA 34 (?_) ?_ (Below.refl _ _) ?_
                rotate_left
                · (intro w1 hS; go_simp; try with_reducible rfl)
                simp only [Act.put, tS1, tS2, tS3]
                refine tkA 35 (?_) ?_ (Below.refl _ _) ?_
                rotate_left
                · (intro w1 hS; go_simp; try with_reducible rfl)
                simp only [Act.put, tS1, tS2, tS3]
                refine wpAnyH_done (by kernel_rfl) ?_ _
                have hy := E2.out
                replace C := Lib.hid (C.out.below hy C.out.lt)
                replace N := Lib.hid (N.out.below hy N.out.lt)
                replace K := Lib.hid (K.out.trans (hy.mono K.out.size))
                replace X := Lib.hid (X.out.below hy X.out.lt)
                replace Y := Lib.hid (Y.out.below hy Y.out.lt)
                clear hy E2
                go_wp2
                clear KV LX LY EQ0 Y
                go_loopw [19] (fun i wr => ∃ q : Nat, q ≤ s ∧ i = .int .i64 (q : Int) ∧ Hid (Blk wr w.heap.size 27 cc) ∧ Hid (Blk wr (w.heap.size + 1) 31 kc) ∧ Hid (Blk wr gX 41 cuX) ∧ Hid (Below w.heap.size w wr)) (fun i _ => s - (RowKit.intOf i).toNat)
                case atStart => exact ⟨0, by omega, rfl, C, N, X, K⟩
                case round =>
                  obtain ⟨q, hq, rfl, Cr, Nr, Xr, Kr⟩ := hrel
                  clear C N X K
                  by_cases hl2 : q < s
                  · have d10 : decide ((q : Int) < (s : Int)) = true := decide_eq_true (by omega)
                    have d11 : decide (q < s) = true := decide_eq_true (by omega)
                    obtain ⟨x0, x1⟩ := CX2.out q hl2
                    have LX := Lib.hid (fun W hb => LD.out gX q cuX W hb x0 x1)
                    have EQq := Lib.hid (EQ.out q hl2)
                    have CPq := Lib.hid (CPI.out q hl2)
                    generalize (#[.int .i64 (q : Int), .int .i64 ((f q : Nat) : Int)] : Array Value) = PX at LX EQq CPq
                    have i3 : (0 : Int) ≤ (q : Int) := by omega
                    have i4 : (q : Int) < (s : Int) := by omega
                    clear CX2 EQ CPI LD x0 x1 HXX
                    go_upto_region 26 with fail
                    refine wp_region_held (S := (fun w' : World => Below (wr.heap.size) wr w')) (by kernel_rfl) ?_
                    change wpAnyH _ _ _ _ _ _ _ _ wr.drew
                    have hy : Below wr.heap.size wr wr.drew := (Below.refl _ _).drew
                    have hE0 : Below (wr.heap.size) wr wr.drew := (Below.refl _ _).drew
                    clear hy
                    generalize wr.drew = Y26x0 at hE0  ⊢
                    have E0 := Lib.hid hE0
                    clear hE0
                    refine tkA 0 (?_) ?_ E0.out ?_
                    rotate_left
                    · (intro w1 hS; go_simp; try with_reducible rfl)
                    simp only [Act.put, tS1, tS2, tS3]
                    refine tkA 1 (?_) ?_ E0.out ?_
                    rotate_left
                    · (intro w1 hS; go_simp; try with_reducible rfl)
                    simp only [Act.put, tS1, tS2, tS3]
                    refine tkA 2 (?_) ?_ E0.out ?_
                    rotate_left
                    · (intro w1 hS; go_simp; try with_reducible rfl)
                    simp only [Act.put, tS1, tS2, tS3]
                    refine tkA 3 (.agg PX) ?_ E0.out ?_
                    · (intro w1 hS; have hW := hS; exact exec_load 41 (.tmp 171) rfl _ rfl _ (LX.out _ (Xr.out.below hW Xr.out.lt)))
                    simp only [Act.put, tS1, tS2, tS3]
                    refine tkA 4 (.agg cc) ?_ E0.out ?_
                    · (intro w1 hS; have hW := hS; exact exec_load 27 (.tmp 5) rfl _ rfl _ (run_blk_load (P := Try.prog) 27 (w.heap.size) _ (Cr.out.below hW Cr.out.lt) Try.underlying27 rfl IC.out))
                    simp only [Act.put, tS1, tS2, tS3]
                    refine tkA 5 (.agg kc) ?_ E0.out ?_
                    · (intro w1 hS; have hW := hS; exact exec_load 31 (.tmp 7) rfl _ rfl _ (run_blk_load (P := Try.prog) 31 (w.heap.size + 1) _ (Nr.out.below hW Nr.out.lt) Try.underlying31 rfl IK.out))
                    simp only [Act.put, tS1, tS2, tS3]
                    refine tkA 6 (?_) ?_ E0.out ?_
                    rotate_left
                    · (intro w1 hS; go_simp; try with_reducible rfl)
                    simp only [Act.put, tS1, tS2, tS3]
                    refine tkO 7 (fun KK hK => ?_)
                    go_simp
                    refine (CPq.out Y26x0).mono ?_
                    rintro e Y26x1 ⟨rfl, hy⟩
                    have E1 := Lib.hid (E0.out.trans (hy.mono E0.out.size))
                    have C1 := Lib.hid E1.out
                    clear hy E0
                    refine hK.out _ _ C1.out (fun _ => ?_)
                    clear hK KK
                    refine wpAnyH_mono (S' := (fun w' : World => Below Y26x1.heap.size Y26x1 w')) (fun w1 h => C1.out.trans (h.mono C1.out.size)) _ _ _ _ ?_
                    clear C1
                    try simp only [Act.put, tS1, tS2, tS3]
                    refine tkA 8 (.bool false) ?_ (Below.refl _ _) ?_
                    · (intro w1 hS; exact exec_neq (.tmp 172) (.tmp 176) rfl _ _ rfl rfl true (EQq.out w1))
                    simp only [Act.put, tS1, tS2, tS3]
                    refine wpAnyH_done (by kernel_rfl) ?_ _
                    have hy := E1.out
                    replace Cr := Lib.hid (Cr.out.below hy Cr.out.lt)
                    replace Nr := Lib.hid (Nr.out.below hy Nr.out.lt)
                    replace Xr := Lib.hid (Xr.out.below hy Xr.out.lt)
                    replace Kr := Lib.hid (Kr.out.trans (hy.mono Kr.out.size))
                    clear hy E1
                    go_wp2
                    go_roundw
                    case rel => exact ⟨q + 1, Nat.succ_le_of_lt hl2, by go_num, Cr, Nr, Xr, Kr⟩
                    case measure => simp [RowKit.intOf]; omega
                  · have d10 : decide ((q : Int) < (s : Int)) = false := decide_eq_false (by omega)
                    have d11 : decide (q < s) = false := decide_eq_false (by omega)
                    clear CX2 EQ CPI LD Xr hl2
                    go_wp2
                    go_roundw
                    case rel =>
                      obtain ⟨c', u1, u2⟩ := HXX.out
                      exact ⟨j + 1, c', Nat.succ_le_of_lt hlt, u1, by go_num, u2 ▸ Cr, Nr, Kr⟩
                    case measure => simp [RowKit.intOf]; omega
              · subst hvk
                have CX := Lib.hid (CLN.out rfl)
                clear CLY CL1 CLN EQ CPI LD
                go_upto_region 20 with fail
                refine wp_region_held (S := (fun w' : World => Below (wc.heap.size) wc w')) (by kernel_rfl) ?_
                change wpAnyH _ _ _ _ _ _ _ _ wc.drew
                have hy : Below wc.heap.size wc wc.drew := (Below.refl _ _).drew
                have hE0 : Below (wc.heap.size) wc wc.drew := (Below.refl _ _).drew
                clear hy
                generalize wc.drew = Y20x0 at hE0  ⊢
                have E0 := Lib.hid hE0
                clear hE0
                refine tkA 0 (?_) ?_ E0.out ?_
                rotate_left
                · (intro w1 hS; go_simp; try with_reducible rfl)
                simp only [Act.put, tS1, tS2, tS3]
                refine tkA 1 (.agg kc) ?_ E0.out ?_
                · (intro w1 hS; have hW := hS; exact exec_load 31 (.tmp 7) rfl _ rfl _ (run_blk_load (P := Try.prog) 31 (w.heap.size + 1) _ (N.out.below hW N.out.lt) Try.underlying31 rfl IK.out))
                simp only [Act.put, tS1, tS2, tS3]
                refine tkA 3 (?_) ?_ E0.out ?_
                rotate_left
                · (intro w1 hS; go_simp; try with_reducible rfl)
                simp only [Act.put, tS1, tS2, tS3]
                refine tkA 4 (.agg kc) ?_ E0.out ?_
                · (intro w1 hS; have hW := hS; exact exec_load 31 (.tmp 7) rfl _ rfl _ (run_blk_load (P := Try.prog) 31 (w.heap.size + 1) _ (N.out.below hW N.out.lt) Try.underlying31 rfl IK.out))
                simp only [Act.put, tS1, tS2, tS3]
                refine tkO 2 (fun KK hK => ?_)
                go_simp
                refine (CX.out gF (-1) Y20x0 (F.out.below E0.out F.out.lt)).mono ?_
                rintro e Y20x1 ⟨aX, cpX, rfl, hy⟩
                have E1 := Lib.hid (E0.out.trans (hy.mono E0.out.size))
                have C1 := Lib.hid E1.out
                clear hy E0
                refine hK.out _ _ C1.out (fun _ => ?_)
                clear hK KK
                refine wpAnyH_mono (S' := (fun w' : World => Below Y20x1.heap.size Y20x1 w')) (fun w1 h => C1.out.trans (h.mono C1.out.size)) _ _ _ _ ?_
                clear C1
                try simp only [Act.put, tS1, tS2, tS3]
                refine tkO 5 (fun KK hK => ?_)
                go_simp
                refine (CX.out gF 1 Y20x1 (F.out.below E1.out F.out.lt)).mono ?_
                rintro e Y20x2 ⟨aY, cpY, rfl, hy⟩
                have E2 := Lib.hid (E1.out.trans (hy.mono E1.out.size))
                have C2 := Lib.hid hy
                clear hy E1
                refine hK.out _ _ C2.out (fun _ => ?_)
                clear hK KK
                refine wpAnyH_mono (S' := (fun w' : World => Below Y20x2.heap.size Y20x2 w')) (fun w1 h => C2.out.trans (h.mono C2.out.size)) _ _ _ _ ?_
                clear C2
                try simp only [Act.put, tS1, tS2, tS3]
                refine tkA 6 (?_) ?_ (Below.refl _ _) ?_
                rotate_left
                · (intro w1 hS; go_simp; try with_reducible rfl)
                simp only [Act.put, tS1, tS2, tS3]
                refine tkA 7 (?_) ?_ (Below.refl _ _) ?_
                rotate_left
                · (intro w1 hS; go_simp; try with_reducible rfl)
                simp only [Act.put, tS1, tS2, tS3]
                refine wpAnyH_done (by kernel_rfl) ?_ _
                have hy := E2.out
                replace C := Lib.hid (C.out.below hy C.out.lt)
                replace N := Lib.hid (N.out.below hy N.out.lt)
                replace K := Lib.hid (K.out.trans (hy.mono K.out.size))
                replace F := Lib.hid (F.out.below hy F.out.lt)
                clear hy E2
                clear CX F
                go_upto_region 21 with fail
                refine wp_region_held (S := (fun w' : World => Below (Y20x2.heap.size) Y20x2 w')) (by kernel_rfl) ?_
                change wpAnyH _ _ _ _ _ _ _ _ Y20x2.drew
                have hy : Below Y20x2.heap.size Y20x2 Y20x2.drew := (Below.refl _ _).drew
                have hE0 : Below (Y20x2.heap.size) Y20x2 Y20x2.drew := (Below.refl _ _).drew
                clear hy
                generalize Y20x2.drew = Y21x0 at hE0  ⊢
                have E0 := Lib.hid hE0
                clear hE0
                refine tkA 0 (.agg kc) ?_ E0.out ?_
                · (intro w1 hS; have hW := hS; exact exec_load 31 (.tmp 7) rfl _ rfl _ (run_blk_load (P := Try.prog) 31 (w.heap.size + 1) _ (N.out.below hW N.out.lt) Try.underlying31 rfl IK.out))
                simp only [Act.put, tS1, tS2, tS3]
                refine tkO 1 (fun KK hK => ?_)
                go_simp
                refine (KV.out Y21x0).mono ?_
                rintro e Y21x1 ⟨rfl, hy⟩
                have E1 := Lib.hid (E0.out.trans (hy.mono E0.out.size))
                have C1 := Lib.hid E1.out
                clear hy E0
                refine hK.out _ _ C1.out (fun _ => ?_)
                clear hK KK
                refine wpAnyH_mono (S' := (fun w' : World => Below Y21x1.heap.size Y21x1 w')) (fun w1 h => C1.out.trans (h.mono C1.out.size)) _ _ _ _ ?_
                clear C1
                try simp only [Act.put, tS1, tS2, tS3]
                refine tkA 2 (?_) ?_ (Below.refl _ _) ?_
                rotate_left
                · (intro w1 hS; go_simp; try with_reducible rfl)
                simp only [Act.put, tS1, tS2, tS3]
                refine tkN 3 (Below.refl _ _) ?_
                simp only [Act.put, tS1, tS2, tS3]
                refine tkN 4 (Below.refl _ _) ?_
                simp only [Act.put, tS1, tS2, tS3]
                refine tkN 5 (Below.refl _ _) ?_
                simp only [Act.put, tS1, tS2, tS3]
                refine tkN 6 (Below.refl _ _) ?_
                simp only [Act.put, tS1, tS2, tS3]
                refine tkN 7 (Below.refl _ _) ?_
                simp only [Act.put, tS1, tS2, tS3]
                refine tkN 8 (Below.refl _ _) ?_
                simp only [Act.put, tS1, tS2, tS3]
                refine tkN 9 (Below.refl _ _) ?_
                simp only [Act.put, tS1, tS2, tS3]
                refine tkN 10 (Below.refl _ _) ?_
                simp only [Act.put, tS1, tS2, tS3]
                refine tkN 11 (Below.refl _ _) ?_
                simp only [Act.put, tS1, tS2, tS3]
                refine tkN 12 (Below.refl _ _) ?_
                simp only [Act.put, tS1, tS2, tS3]
                refine tkN 13 (Below.refl _ _) ?_
                simp only [Act.put, tS1, tS2, tS3]
                refine tkN 14 (Below.refl _ _) ?_
                simp only [Act.put, tS1, tS2, tS3]
                refine tkN 15 (Below.refl _ _) ?_
                simp only [Act.put, tS1, tS2, tS3]
                refine tkN 16 (Below.refl _ _) ?_
                simp only [Act.put, tS1, tS2, tS3]
                refine tkN 17 (Below.refl _ _) ?_
                simp only [Act.put, tS1, tS2, tS3]
                refine tkN 18 (Below.refl _ _) ?_
                simp only [Act.put, tS1, tS2, tS3]
                refine tkN 19 (Below.refl _ _) ?_
                simp only [Act.put, tS1, tS2, tS3]
                refine tkN 20 (Below.refl _ _) ?_
                simp only [Act.put, tS1, tS2, tS3]
                refine tkN 21 (Below.refl _ _) ?_
                simp only [Act.put, tS1, tS2, tS3]
                refine tkA 22 (?_) ?_ (Below.refl _ _) ?_
                rotate_left
                · (intro w1 hS; go_simp; try with_reducible rfl)
                simp only [Act.put, tS1, tS2, tS3]
                refine tkA 23 (?_) ?_ (Below.refl _ _) ?_
                rotate_left
                · (intro w1 hS; go_simp; try with_reducible rfl)
                simp only [Act.put, tS1, tS2, tS3]
                refine tkA 24 (.agg kc) ?_ (Below.refl _ _) ?_
                · (intro w1 hS; have hW := E1.out.trans (hS.mono E1.out.size); exact exec_load 31 (.tmp 7) rfl _ rfl _ (run_blk_load (P := Try.prog) 31 (w.heap.size + 1) _ (N.out.below hW N.out.lt) Try.underlying31 rfl IK.out))
                simp only [Act.put, tS1, tS2, tS3]
                refine tkO 25 (fun KK hK => ?_)
                go_simp
                refine (KV.out Y21x1).mono ?_
                rintro e Y21x2 ⟨rfl, hy⟩
                have E2 := Lib.hid (E1.out.trans (hy.mono E1.out.size))
                have C2 := Lib.hid hy
                clear hy E1
                refine hK.out _ _ C2.out (fun _ => ?_)
                clear hK KK
                refine wpAnyH_mono (S' := (fun w' : World => Below Y21x2.heap.size Y21x2 w')) (fun w1 h => C2.out.trans (h.mono C2.out.size)) _ _ _ _ ?_
                clear C2
                try simp only [Act.put, tS1, tS2, tS3]
                refine tkA 26 (?_) ?_ (Below.refl _ _) ?_
                rotate_left
                · (intro w1 hS; go_simp; try with_reducible rfl)
                simp only [Act.put, tS1, tS2, tS3]
                refine tkA 27 (?_) ?_ (Below.refl _ _) ?_
                rotate_left
                · (intro w1 hS; go_simp; try with_reducible rfl)
                simp only [Act.put, tS1, tS2, tS3]
                refine tkA 28 (?_) ?_ (Below.refl _ _) ?_
                rotate_left
                · (intro w1 hS; go_simp; try with_reducible rfl)
                simp only [Act.put, tS1, tS2, tS3]
                refine tkA 29 (?_) ?_ (Below.refl _ _) ?_
                rotate_left
                · (intro w1 hS; go_simp; try with_reducible rfl)
                simp only [Act.put, tS1, tS2, tS3]
                refine tkA 30 (?_) ?_ (Below.refl _ _) ?_
                rotate_left
                · (intro w1 hS; go_simp; try with_reducible rfl)
                simp only [Act.put, tS1, tS2, tS3]
                refine tkA 31 (?_) ?_ (Below.refl _ _) ?_
                rotate_left
                · (intro w1 hS; go_simp; try with_reducible rfl)
                simp only [Act.put, tS1, tS2, tS3]
                refine tkA 32 (?_) ?_ (Below.refl _ _) ?_
                rotate_left
                · (intro w1 hS; go_simp; try with_reducible rfl)
                simp only [Act.put, tS1, tS2, tS3]
                refine tkA 33 (?_) ?_ (Below.refl _ _) ?_
                rotate_left
                · (intro w1 hS; go_simp; try with_reducible rfl)
                simp only [Act.put, tS1, tS2, tS3]
                refine tkA 34 (?_) ?_ (Below.refl _ _) ?_
                rotate_left
                · (intro w1 hS; go_simp; try with_reducible rfl)
                simp only [Act.put, tS1, tS2, tS3]
                refine tkA 35 (?_) ?_ (Below.refl _ _) ?_
                rotate_left
                · (intro w1 hS; go_simp; try with_reducible rfl)
                simp only [Act.put, tS1, tS2, tS3]
                refine wpAnyH_done (by kernel_rfl) ?_ _
                have hy := E2.out
                replace C := Lib.hid (C.out.below hy C.out.lt)
                replace N := Lib.hid (N.out.below hy N.out.lt)
                replace K := Lib.hid (K.out.trans (hy.mono K.out.size))
                clear hy E2
                go_wp2
                clear KV
                go_loopw [19] (fun i wr => i = .int .i64 0 ∧ Hid (Blk wr w.heap.size 27 cc) ∧ Hid (Blk wr (w.heap.size + 1) 31 kc) ∧ Hid (Below w.heap.size w wr)) (fun _ _ => 0)
                case atStart => exact ⟨rfl, C, N, K⟩
                case round =>
                  obtain ⟨rfl, Cr, Nr, Kr⟩ := hrel
                  clear C N K
                  go_wp2
                  go_roundw
                  case rel =>
                    obtain ⟨c', u1, u2⟩ := HXX.out
                    exact ⟨j + 1, c', Nat.succ_le_of_lt hlt, u1, by go_num, u2 ▸ Cr, Nr, Kr⟩
                  case measure => simp [RowKit.intOf]; omega
    · have d8 : decide ((j : Int) < 2) = false := decide_eq_false (by omega)
      have d9 : decide (j < 2) = false := decide_eq_false (by omega)
      clear hlt
      go_wp2_with fail
      refine (CA.out wr).mono ?_
      rintro e V21 ⟨rfl, hy⟩
      replace Cr := Lib.hid (Cr.out.below hy Cr.out.lt)
      replace Nr := Lib.hid (Nr.out.below hy Nr.out.lt)
      replace Kr := Lib.hid (Kr.out.trans (hy.mono Kr.out.size))
      clear hy
      go_wp2
      go_ret
      exact ⟨rfl, Kr.out⟩
end Go.Proofs.Ytblkpnjmmdbgnaa
