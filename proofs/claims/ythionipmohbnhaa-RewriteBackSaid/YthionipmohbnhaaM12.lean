/- Texts that the walks of this seat lean on, put together. -/
import Derived.Test.YthionipmohbnhaaTk
import Derived.Test.YthionipmohbnhaaM06
import Derived.Test.YthionipmohbnhaaM07
import Derived.Test.YthionipmohbnhaaM09
import Derived.Test.YthionipmohbnhaaM11
namespace Go.Proofs.Ythionipmohbnhaa
open Go.RowKit
set_option maxRecDepth 100000 in
set_option maxHeartbeats 1000000 in
theorem fread_net (v : Value) (zs : List Nat) (w : World) (hr : Rd w v (nus .u8 zs)) (hb : ∀ c ∈ zs, c < 256) (h : (net zs).2.2 ≠ 0) :
    Calls Try.prog 18 #[v] w fun e w' => e = .returned (.tuple #[.agg (vw zs), .int .i64 (rr zs : Nat)]) ∧ Below w.heap.size w w' := by
  obtain ⟨hrr, hv⟩ := rr_net zs h
  rw [hv, hrr]
  have CN := Lib.hid (fun W (h : Rd W v (nus .u8 zs)) => net_any v zs W h hb)
  have K := Lib.hid (Below.refl w.heap.size w)
  have HR := Lib.hid hr
  have Y0 : Hid (v0.size = Array.size (ZcV : Array Value)) := v0_size
  have Z0 := Lib.hid (i72.trans (congrArg some v0_size.symm))
  have A0 := Lib.hid v0_all
  obtain ⟨a, cap, rfl, -, -⟩ := rd_shape hr
  generalize (net zs).1 = at0 at *
  generalize (net zs).2.1 = kind at *
  generalize (net zs).2.2 = r at *
  generalize zs.length = n at *
  have g0 : ((r : Int) != 0) = true := by simp; omega
  clear hr hb h hv hrr
  go_enter Try.func18, Try.ntmps18
  have hal := (Below.refl w.heap.size w).alloc (Nat.le_refl _) (.cells ZcV 42)
  replace K := Lib.hid (K.out.trans (hal.mono K.out.size))
  have HV := Lib.hid (Blk.new w 42 ZcV)
  clear hal
  go_wp2_with fail
  have hzV1 : Hid ((w.alloc (.cells ZcV 42)).heap.size = w.heap.size + 1) := by show _ = _; simp only [World.size_alloc]
  generalize (w.alloc (.cells ZcV 42)) = V1 at *
  refine (CN.out _ (HR.out.below K.out)).mono ?_
  rintro e V2 ⟨rfl, rfl⟩
  go_wp2_with (((with_reducible refine wpList_blk_store (op := ⟨none, .store 42 (.tmp 2) (.tmp 14), _, _, _, _⟩) ?sg1 42 (.tmp 2) (.tmp 14) ?so1 (w.heap.size) v0 ?sx1 ?sy1 HV.out Y0.out Z0.out A0.out ?_); (case sg1 => rfl); (case so1 => rfl); (case sx1 => rfl); (case sy1 => rfl)))
  intro V3 hA hF hB
  replace K := Lib.hid (K.out.trans (hB _ (by omega)))
  replace HV := Lib.hid hA
  clear hA hF hB
  go_wp2
  have hrun := run_blk_load (P := Try.prog) 42 w.heap.size _ HV.out Try.underlying42 rfl Z0.out
  exact bodyPost_ret (results_cell_tmp 2 42 3 w.heap.size _ Try.results18 rfl hrun) rfl ⟨rfl, K.out⟩
set_option maxRecDepth 100000 in
set_option maxHeartbeats 2000000 in
theorem fread_ok (v : Value) (zs : List Nat) (w : World) (hr : Rd w v (nus .u8 zs)) (hb : ∀ c ∈ zs, c < 256) (h : (net zs).2.2 = 0) (hz : zs.length ≤ 65535) :
    Calls Try.prog 18 #[v] w fun e w' => e = .returned (.tuple #[.agg (vw zs), .int .i64 (rr zs : Nat)]) ∧ Below w.heap.size w w' := by
  obtain ⟨hat, hatl, hk⟩ := net_ok zs h
  have hk2 : (net zs).2.1 = if sixF zs then 34525 else 2048 := by
    unfold sixF
    rcases hk with hk | hk <;> rw [hk] <;> rfl
  have RP := Lib.hid (rr_pkt zs h)
  have RS := Lib.hid (sv_eq zs h)
  have CN := Lib.hid (fun W (h : Rd W v (nus .u8 zs)) => net_any v zs W h hb)
  rw [h, hk2] at CN
  have CP := Lib.hid (fun W (h : Rd W v (nus .u8 zs)) => packet_any v zs (net zs).1 (sixF zs) W h hb (by omega) hatl)
  have CS := Lib.hid (fun hok W (h : Rd W v (nus .u8 zs)) => segment_any v zs (net zs).1 (sixF zs) W h hb (by omega) hatl hok)
  have SS := Lib.hid (sv_size (sixF zs) (net zs).1 zs)
  have YPV : Hid ((pv (sixF zs) (net zs).1 (pkt zs)).size = Array.size (ZcV : Array Value)) := pv_size _ _ _
  have ZPV := Lib.hid (i72.trans (congrArg some (pv_size (sixF zs) (net zs).1 (pkt zs)).symm))
  have APV := Lib.hid (pv_all (sixF zs) (net zs).1 (pkt zs))
  have YVW : Hid ((vw zs).size = Array.size (ZcV : Array Value)) := vw_size zs
  have QVW := Lib.hid (i72.trans (congrArg some (vw_size zs).symm))
  have AVW := Lib.hid (vw_all zs)
  have Y0P := Lib.hid (v0_size.trans (pv_size (sixF zs) (net zs).1 (pkt zs)).symm)
  have YVP := Lib.hid ((vw_size zs).trans (pv_size (sixF zs) (net zs).1 (pkt zs)).symm)
  rw [show zs.drop (net zs).1 = pkt zs from rfl] at CP CS SS
  have K := Lib.hid (Below.refl w.heap.size w)
  have HR := Lib.hid hr
  have Y0 : Hid (v0.size = Array.size (ZcV : Array Value)) := v0_size
  have Z0 := Lib.hid (i72.trans (congrArg some v0_size.symm))
  have A0 := Lib.hid v0_all
  obtain ⟨a, cap, rfl, -, hlm⟩ := rd_shape hr
  clear hk hk2 hr hb hat hatl h
  generalize fs (fP (sixF zs) (pkt zs)) (sgT (sixF zs) (net zs).1 zs) = r2 at *
  generalize sv (sixF zs) (net zs).1 zs = VS at *
  generalize pv (sixF zs) (net zs).1 (pkt zs) = PV at *
  generalize fhr (sixF zs) (pkt zs) = r1 at *
  generalize (net zs).1 = at0 at *
  generalize (if sixF zs then 34525 else 2048 : Nat) = kind at *
  generalize vw zs = VW at *
  generalize rr zs = RRR at *
  generalize zs.length = n at *
  unfold maxLen at hlm
  have e65 : decide ((65535 : Int) < (n : Int)) = false := decide_eq_false (by omega)
  go_enter Try.func18, Try.ntmps18
  have hal := (Below.refl w.heap.size w).alloc (Nat.le_refl _) (.cells ZcV 42)
  replace K := Lib.hid (K.out.trans (hal.mono K.out.size))
  have HV := Lib.hid (Blk.new w 42 ZcV)
  clear hal
  go_wp2_with fail
  have hzV1 : Hid ((w.alloc (.cells ZcV 42)).heap.size = w.heap.size + 1) := by show _ = _; simp only [World.size_alloc]
  generalize (w.alloc (.cells ZcV 42)) = V1 at *
  refine (CN.out _ (HR.out.below K.out)).mono ?_
  rintro e V2 ⟨rfl, rfl⟩
  go_wp2_with fail
  refine (CP.out _ (HR.out.below K.out)).mono ?_
  rintro e V3 ⟨rfl, hy⟩
  replace K := Lib.hid (K.out.trans (hy.mono K.out.size))
  replace HV := Lib.hid (HV.out.below hy HV.out.lt)
  clear hy
  go_wp2_with (((with_reducible refine wpList_blk_store (op := ⟨none, .store 42 (.tmp 2) (.tmp 25), _, _, _, _⟩) ?sg2 42 (.tmp 2) (.tmp 25) ?so2 (w.heap.size) PV ?sx2 ?sy2 HV.out YPV.out ZPV.out APV.out ?_); (case sg2 => rfl); (case so2 => rfl); (case sx2 => rfl); (case sy2 => rfl)))
  intro V4 hA hF hB
  replace K := Lib.hid (K.out.trans (hB _ (by omega)))
  replace HV := Lib.hid hA
  clear hA hF hB
  by_cases hr1 : r1 = 0
  case neg =>
    obtain ⟨e1, e2⟩ := RP.out hr1
    subst e1 e2
    have g0 : ((RRR : Int) != 0) = true := by simp; omega
    clear hr1
    go_wp2_with (((with_reducible refine wpList_blk_store (op := ⟨none, .store 42 (.tmp 2) (.tmp 29), _, _, _, _⟩) ?sg3 42 (.tmp 2) (.tmp 29) ?so3 (w.heap.size) v0 ?sx3 ?sy3 HV.out Y0P.out Z0.out A0.out ?_); (case sg3 => rfl); (case so3 => rfl); (case sx3 => rfl); (case sy3 => rfl)))
    intro V5 hA hF hB
    replace K := Lib.hid (K.out.trans (hB _ (by omega)))
    replace HV := Lib.hid hA
    clear hA hF hB
    go_wp2
    have hrun := run_blk_load (P := Try.prog) 42 w.heap.size _ HV.out Try.underlying42 rfl Z0.out
    exact bodyPost_ret (results_cell_tmp 2 42 3 w.heap.size _ Try.results18 rfl hrun) rfl ⟨rfl, K.out⟩
  obtain ⟨e1, e2⟩ := RS.out hr1
  have CS2 := Lib.hid (CS.out hr1)
  clear CS SS RS RP
  subst hr1 e1 e2
  have L4 : (loadVar 42 ⟨w.heap.size, 0, none⟩).run Try.prog V4 = .ok (.agg PV) V4 := run_blk_load (P := Try.prog) 42 (w.heap.size) _ HV.out Try.underlying42 rfl ZPV.out
  replace L4 := Lib.hid L4
  go_wp2_with (((with_reducible refine wpList_load_want (op := ⟨some 32, .load 42 (.tmp 2), _, _, _, _⟩) ?wg4 42 (.tmp 2) ?wo4 ⟨w.heap.size, 0, none⟩ ?wx4 (.agg PV) L4.out ?_); (case wg4 => rfl); (case wo4 => rfl); (case wx4 => rfl)))
  clear L4
  refine (CS2.out _ (HR.out.below K.out)).mono ?_
  rintro e V5 ⟨rfl, hy⟩
  replace K := Lib.hid (K.out.trans (hy.mono K.out.size))
  replace HV := Lib.hid (HV.out.below hy HV.out.lt)
  clear hy
  go_wp2_with (((with_reducible refine wpList_blk_store (op := ⟨none, .store 42 (.tmp 2) (.tmp 34), _, _, _, _⟩) ?sg5 42 (.tmp 2) (.tmp 34) ?so5 (w.heap.size) VW ?sx5 ?sy5 HV.out YVP.out QVW.out AVW.out ?_); (case sg5 => rfl); (case so5 => rfl); (case sx5 => rfl); (case sy5 => rfl)))
  intro V6 hA hF hB
  replace K := Lib.hid (K.out.trans (hB _ (by omega)))
  replace HV := Lib.hid hA
  clear hA hF hB
  go_wp2
  have hrun := run_blk_load (P := Try.prog) 42 w.heap.size _ HV.out Try.underlying42 rfl QVW.out
  exact bodyPost_ret (results_cell_tmp 2 42 3 w.heap.size _ Try.results18 rfl hrun) rfl ⟨rfl, K.out⟩
theorem fread_any (v : Value) (zs : List Nat) (w : World) (hr : Rd w v (nus .u8 zs)) (hb : ∀ c ∈ zs, c < 256) (hz : zs.length ≤ 65535 ∨ (net zs).2.2 ≠ 0) :
    Calls Try.prog 18 #[v] w fun e w' => e = .returned (.tuple #[.agg (vw zs), .int .i64 (rr zs : Nat)]) ∧ Below w.heap.size w w' := by
  by_cases h : (net zs).2.2 = 0
  · exact fread_ok v zs w hr hb h (hz.resolve_right (fun x => x h))
  · exact fread_net v zs w hr hb h
end Go.Proofs.Ythionipmohbnhaa
namespace Go.Proofs.Ythionipmohbnhaa
open Go.RowKit
set_option maxRecDepth 100000 in
set_option maxHeartbeats 1000000 in
theorem rsum4_any (va : Value) (zs : List Nat) (start : Nat) (w : World) (hr : Rd w va (nus .u8 zs)) (hz : zs.length ≤ 4000) (hb : ∀ c ∈ zs, c < 256) (hs : start < 4294967296) :
    Calls Try.prog 29 #[va, .int .u32 (start : Int)] w fun e w' => e = .returned (.int .i64 (gr (start + wsp 0 zs) : Nat)) ∧ w = w' := by
  have HR := Lib.hid hr
  obtain ⟨a, cap, rfl, h1, h2, -⟩ := hr
  rw [nus_length] at h1 HR ⊢
  unfold maxLen at h2
  obtain ⟨len, hl⟩ : ∃ n, n = zs.length := ⟨_, rfl⟩
  rw [← hl] at h1 hz HR ⊢
  have HL := Lib.hid hl
  have HB := Lib.hid hb
  clear hl hb
  go_enter Try.func29, Try.ntmps29
  go_wp2
  go_loop [5, 6] (fun u i => ∃ j p s : Nat, p = 2 * j ∧ p ≤ len + 1 ∧ i = .int .i64 (p : Int) ∧ s = start + wsp 0 (zs.take p) ∧ u = .int .u64 (s : Int)) (fun _ i => len + 1 - (intOf i).toNat)
  case atStart => exact ⟨0, 0, start, rfl, by omega, rfl, by simp [wsp], rfl⟩
  case round =>
    obtain ⟨j, p, s, hp, hpl, rfl, hse, rfl⟩ := hrel
    have hsl : s < 4560000000 := by
      have := wsp_take_lt zs p HB.out
      rw [← HL.out] at this
      omega
    have HS := Lib.hid hse
    have HP := Lib.hid hp
    clear hse hp
    by_cases hlt : p < len
    · obtain ⟨b, o, rfl, hc⟩ := HR.out.cells (by omega)
      have c0 := hc p hlt
      have hx := getD_lt zs HB.out p
      have hw := wsp_two zs j (by rw [← HP.out, ← HL.out]; exact hlt)
      rw [show 2 * (j + 1) = p + 2 from by rw [HP.out]; omega, ← HP.out] at hw
      unfold w2 at hw
      rw [← HP.out] at hw
      have HW := Lib.hid hw
      obtain ⟨x, hxe⟩ : ∃ x, x = zs.getD p 0 := ⟨_, rfl⟩
      rw [← hxe] at c0 hx
      have HX := Lib.hid hxe
      have HC := Lib.hid hc
      clear hw hxe hc
      by_cases hlt2 : p + 1 < len
      · have c1 := HC.out (p + 1) hlt2
        have hy := getD_lt zs HB.out (p + 1)
        obtain ⟨y, hye⟩ : ∃ y, y = zs.getD (p + 1) 0 := ⟨_, rfl⟩
        rw [← hye] at c1 hy
        have HY := Lib.hid hye
        clear hye
        go_wp2
        go_round
        case rel => exact ⟨j + 1, p + 2, s + x * 256 + y, by have := HP.out; omega, by omega, by go_num, by have := HS.out; have := HX.out; have := HY.out; rw [HW.out, ← HX.out, ← HY.out]; omega, by go_num⟩
        case measure => simp [intOf]; omega
      · have hy : zs.getD (p + 1) 0 = 0 := by rw [List.getD_eq_getElem?_getD, List.getElem?_eq_none (by rw [← HL.out]; omega)]; rfl
        have HY := Lib.hid hy
        clear hy
        go_wp2
        go_round
        case rel => exact ⟨j + 1, p + 2, s + x * 256, by have := HP.out; omega, by omega, by go_num, by rw [HW.out, HY.out, ← HX.out, HS.out]; omega, by go_num⟩
        case measure => simp [intOf]; omega
    · have hse : s = start + wsp 0 zs := by rw [HS.out, List.take_of_length_le (by rw [← HL.out]; omega)]
      have HSE := Lib.hid hse
      clear hse
      go_wp2
      go_loop [5] (fun v => ∃ x : Nat, gr x = gr s ∧ x < 4611686018427387904 ∧ v = .int .u64 x) (fun v => (intOf v).toNat)
      case atStart => exact ⟨s, rfl, by omega, rfl⟩
      case round =>
        obtain ⟨x, hg, hx, rfl⟩ := hrel
        have HG := Lib.hid hg
        clear hg
        by_cases hlt : 65535 < x
        · have hst := Lib.hid (gr_step x hlt)
          have ho := Lib.hid (go_on x (by omega))
          go_wp2
          go_round
          case rel => exact ⟨x / 65536 + x % 65536, by rw [hst.out, HG.out], by omega, by rw [ho.out]⟩
          case measure => rw [ho.out]; simp [intOf]; omega
        · have hfin := Lib.hid (gr_lt s x HG.out (by omega))
          go_wp2
          go_ret
          exact ⟨ret_int (by rw [← HSE.out, ← hfin.out]), rfl⟩
set_option maxRecDepth 100000 in
set_option maxHeartbeats 1000000 in
theorem rgood_no (p : Nat) (v : Value) (zs : List Nat) (v1 : Bool) (F : List Nat) (v2 : Bool) (D : List Nat) (w : World) (hr : Rd w v (nus .u8 zs)) (hb : ∀ c ∈ zs, c < 256) (h : fs p zs ≠ 0 ∨ v1 ≠ v2) :
    Calls Try.prog 37 #[.int .u8 (p : Int), v, adr v1 F, adr v2 D] w fun e w' => e = .returned (.bool false) ∧ Below w.heap.size w w' := by
  have YH : Hid ((rs7 p zs).size = Array.size (#[Value.int .i64 0, .int .i64 0, .int .u8 0] : Array Value)) := rs7_size p zs
  have ZH := Lib.hid (i34.trans (congrArg some (rs7_size p zs).symm))
  have AH := Lib.hid (rs7_all p zs)
  have CS := Lib.hid (fun W (h : Rd W v (nus .u8 zs)) => rread_any p v zs W h hb)
  obtain ⟨a, cap, rfl, -, -⟩ := rd_shape hr
  unfold adr
  have E1 := Lib.hid (show (cellsA v1 F)[0]? = some (.bool v1) from cellsA_head _ _)
  have E2 := Lib.hid (show (cellsA v2 D)[0]? = some (.bool v2) from cellsA_head _ _)
  have I1 := Lib.hid (show True from trivial)
  have I2 := Lib.hid (show True from trivial)
  generalize cellsA v1 F = c1 at *
  generalize cellsA v2 D = c2 at *
  generalize rs7 p zs = H at *
  generalize fs p zs = r at *
  generalize zs.length = n at *
  have K := Lib.hid (Below.refl w.heap.size w)
  have HR := Lib.hid hr
  clear hr hb
  go_enter Try.func37, Try.ntmps37
  have hal := (Below.refl w.heap.size w).alloc (Nat.le_refl _) (.cells c1 25)
  replace K := Lib.hid (K.out.trans (hal.mono K.out.size))
  have N1 := Lib.hid (Blk.new w 25 c1)
  clear hal
  have hal := (Below.refl (w.alloc (.cells c1 25)).heap.size (w.alloc (.cells c1 25))).alloc (Nat.le_refl _) (.cells c2 25)
  replace K := Lib.hid (K.out.trans (hal.mono K.out.size))
  replace N1 := Lib.hid (N1.out.below hal N1.out.lt)
  have N2q := Blk.new (w.alloc (.cells c1 25)) 25 c2
  simp only [World.size_alloc] at N2q
  have N2 := Lib.hid N2q
  clear N2q
  clear hal
  go_wp2_with fail
  have hzV1 : Hid (((w.alloc (.cells c1 25)).alloc (.cells c2 25)).heap.size = w.heap.size + 1 + 1) := by show _ = _; simp only [World.size_alloc]
  generalize ((w.alloc (.cells c1 25)).alloc (.cells c2 25)) = V1 at *
  refine (CS.out _ (HR.out.below K.out)).mono ?_
  rintro e V2 ⟨rfl, hy⟩
  replace K := Lib.hid (K.out.trans (hy.mono K.out.size))
  replace N1 := Lib.hid (N1.out.below hy N1.out.lt)
  replace N2 := Lib.hid (N2.out.below hy N2.out.lt)
  clear hy
  go_wp2_with (((with_reducible refine wpList_blk_store (op := ⟨none, .store 71 (.tmp 9) (.tmp 17), _, _, _, _⟩) ?sg1 71 (.tmp 9) (.tmp 17) ?so1 (V2.heap.size) H ?sx1 ?sy1 (Blk.new V2 71 #[Value.int .i64 0, .int .i64 0, .int .u8 0]) YH.out ZH.out AH.out ?_); (case sg1 => rfl); (case so1 => rfl); (case sx1 => rfl); (case sy1 => rfl)))
  have qN1NS : w.heap.size < V2.heap.size := N1.out.lt
  have qN2NS : w.heap.size + 1 < V2.heap.size := N2.out.lt
  intro V3 hA hF hB
  have hy := ((Below.refl V2.heap.size V2).alloc (Nat.le_refl _) (.cells #[Value.int .i64 0, .int .i64 0, .int .u8 0] 71)).trans (hB _ (Nat.le_refl _))
  replace K := Lib.hid (K.out.trans (hy.mono K.out.size))
  replace N1 := Lib.hid (N1.out.below hy N1.out.lt)
  replace N2 := Lib.hid (N2.out.below hy N2.out.lt)
  have NS := Lib.hid hA
  clear hA hF hB hy
  have hc1 := (N1.out.cell 0).trans E1.out
  have hc2 := (N2.out.cell 0).trans E2.out
  by_cases hr0 : r = 0
  · have hv : v1 ≠ v2 := by rcases h with h | h; exact absurd hr0 h; exact h
    subst hr0
    clear h
    cases v1 <;> cases v2
    · exact absurd rfl hv
    · clear hv
      go_wp2
      go_ret
      exact ⟨rfl, K.out⟩
    · clear hv
      go_wp2
      go_ret
      exact ⟨rfl, K.out⟩
    · exact absurd rfl hv
  · have g0 : ((r : Int) != 0) = true := by simp; omega
    clear h hr0 hc1 hc2
    go_wp2
    go_ret
    exact ⟨rfl, K.out⟩
set_option maxRecDepth 100000 in
set_option maxHeartbeats 4000000 in
theorem rgood_yes (p : Nat) (v : Value) (zs : List Nat) (v1 : Bool) (S D : List Nat) (w : World) (hr : Rd w v (nus .u8 zs)) (hb : ∀ c ∈ zs, c < 256) (h : fs p zs = 0) (hz : zs.length ≤ 3000) (hp : p < 256)
    (hS : S.length = 16) (hD : D.length = 16) (hbS : ∀ c ∈ S, c < 256) (hbD : ∀ c ∈ D, c < 256) :
    Calls Try.prog 37 #[.int .u8 (p : Int), v, adr v1 S, adr v1 D] w fun e w' => e = .returned (.bool (wo p zs || decide (gr (tsum p zs v1 S D) = 65535))) ∧ Below w.heap.size w w' := by
  have YH : Hid ((rs7 p zs).size = Array.size (#[Value.int .i64 0, .int .i64 0, .int .u8 0] : Array Value)) := rs7_size p zs
  have ZH := Lib.hid (i34.trans (congrArg some (rs7_size p zs).symm))
  have AH := Lib.hid (rs7_all p zs)
  have CS := Lib.hid (fun W (h : Rd W v (nus .u8 zs)) => rread_any p v zs W h hb)
  rw [h] at CS
  have hn8 : 8 ≤ zs.length := by rcases fs_yes p zs h with ⟨-, h1, -⟩ | ⟨-, h1, -⟩ <;> omega
  obtain ⟨a, cap, rfl, hlc, hlm⟩ := rd_shape hr
  obtain ⟨b, off, rfl, -⟩ := hr.cells (by omega)
  have CB1 := Lib.hid (fun w' => rbytes_own v1 S hS w')
  have CB2 := Lib.hid (fun w' => rbytes_own v1 D hD w')
  have lF := bytesA_len v1 S hS
  have lD := bytesA_len v1 D hD
  obtain ⟨m1, hm1⟩ : ∃ m, m = (bytesA v1 S).length := ⟨_, rfl⟩
  obtain ⟨m2, hm2⟩ : ∃ m, m = (bytesA v1 D).length := ⟨_, rfl⟩
  have h1 : 0 < m1 ∧ m1 ≤ 16 := by rw [hm1, lF]; split <;> omega
  have h2 : 0 < m2 ∧ m2 ≤ 16 := by rw [hm2, lD]; split <;> omega
  rw [← hm1] at CB1
  rw [← hm2] at CB2
  have CW := Lib.hid (fun W (h : Rd W (.slice (some ⟨b, off, none⟩) zs.length cap) (nus .u8 zs)) => be16_b _ _ _ 6 zs W h hb (by omega))
  have hwl := u2_lt zs 6 hb
  have HW : Hid (wo p zs = decide (p = 17 ∧ u2 zs 6 = 0)) := rfl
  obtain ⟨d1, hd1⟩ : ∃ d, d = zs.length / 16777216 % 256 := ⟨_, rfl⟩
  obtain ⟨d2, hd2⟩ : ∃ d, d = zs.length / 65536 % 256 := ⟨_, rfl⟩
  obtain ⟨d3, hd3⟩ : ∃ d, d = zs.length / 256 % 256 := ⟨_, rfl⟩
  obtain ⟨d4, hd4⟩ : ∃ d, d = zs.length % 256 := ⟨_, rfl⟩
  have HX : Hid (psd v1 S D p zs.length = bytesA v1 S ++ bytesA v1 D ++ (if v1 then [d1, d2, d3, d4, 0, 0, 0, p] else [0, p, d3, d4])) := by
    show _ = _
    unfold psd
    have e1 : zs.length / 256 / 256 = zs.length / 65536 := by omega
    have e2 : zs.length / 65536 / 256 = zs.length / 16777216 := by omega
    rw [hd1, hd2, hd3, hd4]
    cases v1 <;> simp [bg, e1, e2]
  have hw1 : IntKind.u8.wrap ((zs.length : Int) / 16777216) = (d1 : Int) := by rw [IntKind.wrap_u8]; omega
  have hw2 : IntKind.u8.wrap ((zs.length : Int) / 65536) = (d2 : Int) := by rw [IntKind.wrap_u8]; omega
  have hw3 : IntKind.u8.wrap ((zs.length : Int) / 256) = (d3 : Int) := by rw [IntKind.wrap_u8]; omega
  have hw4 : IntKind.u8.wrap (zs.length : Int) = (d4 : Int) := by rw [IntKind.wrap_u8]; omega
  have lP := psd_len v1 S D p zs.length hS hD
  have hJ : (psd v1 S D p zs.length ++ zs).length ≤ 4000 := by rw [List.length_append, lP]; split <;> omega
  have bJ : ∀ c ∈ psd v1 S D p zs.length ++ zs, c < 256 := by
    intro c hc; rcases List.mem_append.1 hc with h | h
    · exact psd_lt v1 S D p zs.length hbS hbD hp c h
    · exact hb c h
  have CSM := Lib.hid (fun W x (h : Rd W x (nus .u8 (psd v1 S D p zs.length ++ zs))) => rsum4_any x (psd v1 S D p zs.length ++ zs) 0 W h hJ bJ (by omega))
  rw [wsp_joined v1 S D p zs hS hD, Nat.zero_add] at CSM
  have hgt := gr_le (tsum p zs v1 S D)
  unfold adr at CB1 CB2 ⊢
  have E1 := Lib.hid (show (cellsA v1 S)[0]? = some (.bool v1) from cellsA_head _ _)
  have E2 := Lib.hid (show (cellsA v1 D)[0]? = some (.bool v1) from cellsA_head _ _)
  have z1 : (cellsA v1 S).size = 17 := by rw [cellsA_size, hS]
  have z2 : (cellsA v1 D).size = 17 := by rw [cellsA_size, hD]
  have I1 := Lib.hid (i24.trans (congrArg some z1.symm))
  have I2 := Lib.hid (i24.trans (congrArg some z2.symm))
  have K := Lib.hid (Below.refl w.heap.size w)
  have HR := Lib.hid hr
  have HPL := Lib.hid (show zs.length ≤ 3000 from hz)
  clear hr hb h z1 z2 hbS hbD lP hS hD hd1 hd2 hd3 hd4 hm1 hm2 lF lD hJ bJ
  generalize cellsA v1 S = c1 at *
  generalize cellsA v1 D = c2 at *
  generalize gr (tsum p zs v1 S D) = gt at *
  generalize psd v1 S D p zs.length = ps at *
  generalize bytesA v1 S = bf at *
  generalize bytesA v1 D = bd at *
  generalize wo p zs = wq at *
  generalize u2 zs 6 = o0 at *
  generalize rs7 p zs = H at *
  generalize zs.length = n at *
  unfold maxLen at hlm
  generalize hdq : decide (gt = 65535) = dq
  have HDQ := Lib.hid hdq
  clear hdq
  go_enter Try.func37, Try.ntmps37
  have hal := (Below.refl w.heap.size w).alloc (Nat.le_refl _) (.cells c1 25)
  replace K := Lib.hid (K.out.trans (hal.mono K.out.size))
  have N1 := Lib.hid (Blk.new w 25 c1)
  clear hal
  have hal := (Below.refl (w.alloc (.cells c1 25)).heap.size (w.alloc (.cells c1 25))).alloc (Nat.le_refl _) (.cells c2 25)
  replace K := Lib.hid (K.out.trans (hal.mono K.out.size))
  replace N1 := Lib.hid (N1.out.below hal N1.out.lt)
  have N2q := Blk.new (w.alloc (.cells c1 25)) 25 c2
  simp only [World.size_alloc] at N2q
  have N2 := Lib.hid N2q
  clear N2q
  clear hal
  go_wp2_with fail
  have hzV1 : Hid (((w.alloc (.cells c1 25)).alloc (.cells c2 25)).heap.size = w.heap.size + 1 + 1) := by show _ = _; simp only [World.size_alloc]
  generalize ((w.alloc (.cells c1 25)).alloc (.cells c2 25)) = V1 at *
  refine (CS.out _ (HR.out.below K.out)).mono ?_
  rintro e V2 ⟨rfl, hy⟩
  replace K := Lib.hid (K.out.trans (hy.mono K.out.size))
  replace N1 := Lib.hid (N1.out.below hy N1.out.lt)
  replace N2 := Lib.hid (N2.out.below hy N2.out.lt)
  clear hy
  go_wp2_with (((with_reducible refine wpList_blk_store (op := ⟨none, .store 71 (.tmp 9) (.tmp 17), _, _, _, _⟩) ?sg2 71 (.tmp 9) (.tmp 17) ?so2 (V2.heap.size) H ?sx2 ?sy2 (Blk.new V2 71 #[Value.int .i64 0, .int .i64 0, .int .u8 0]) YH.out ZH.out AH.out ?_); (case sg2 => rfl); (case so2 => rfl); (case sx2 => rfl); (case sy2 => rfl)))
  have qN1NS : w.heap.size < V2.heap.size := N1.out.lt
  have qN2NS : w.heap.size + 1 < V2.heap.size := N2.out.lt
  intro V3 hA hF hB
  have hy := ((Below.refl V2.heap.size V2).alloc (Nat.le_refl _) (.cells #[Value.int .i64 0, .int .i64 0, .int .u8 0] 71)).trans (hB _ (Nat.le_refl _))
  replace K := Lib.hid (K.out.trans (hy.mono K.out.size))
  replace N1 := Lib.hid (N1.out.below hy N1.out.lt)
  replace N2 := Lib.hid (N2.out.below hy N2.out.lt)
  have NS := Lib.hid hA
  clear hA hF hB hy
  have hc1 := (N1.out.cell 0).trans E1.out
  have hc2 := (N2.out.cell 0).trans E2.out
  have ge : (v1 != v1) = false := by cases v1 <;> rfl
  by_cases h17 : p = 17
  · subst h17
    cases wq with
    | true =>
      obtain ⟨-, rfl⟩ := of_decide_eq_true HW.out.symm
      clear HW
      go_wp2_with fail
      refine (CW.out _ (HR.out.below K.out)).mono ?_
      rintro e V4 ⟨rfl, hy⟩
      replace K := Lib.hid (K.out.trans (hy.mono K.out.size))
      replace N1 := Lib.hid (N1.out.below hy N1.out.lt)
      replace N2 := Lib.hid (N2.out.below hy N2.out.lt)
      replace NS := Lib.hid (NS.out.below hy NS.out.lt)
      clear hy
      clear hc1 hc2 ge
      go_wp2
      go_ret
      exact ⟨rfl, K.out⟩
    | false =>
      have g4 : ((o0 : Int) == 0) = false := by
        have := of_decide_eq_false HW.out.symm
        rw [beq_eq_false_iff_ne]; omega
      clear HW
      go_wp2_with fail
      refine (CW.out _ (HR.out.below K.out)).mono ?_
      rintro e V4 ⟨rfl, hy⟩
      replace K := Lib.hid (K.out.trans (hy.mono K.out.size))
      replace N1 := Lib.hid (N1.out.below hy N1.out.lt)
      replace N2 := Lib.hid (N2.out.below hy N2.out.lt)
      replace NS := Lib.hid (NS.out.below hy NS.out.lt)
      clear hy
      go_upto_region 6 with fail
      clear hc1 hc2 ge
      have hlow : V4.heap.size ≤ V4.heap.size := Nat.le_refl _
      have qK := K.out.size
      have qN1 := N1.out.lt
      have qN2 := N2.out.lt
      have qNS := NS.out.lt
      refine wp_region_held (S := (fun w' : World => Below (V4.heap.size) V4 w')) (by kernel_rfl) ?_
      change wpAnyH _ _ _ _ _ _ _ _ V4.drew
      have hy : Below V4.heap.size V4 V4.drew := (Below.refl _ _).drew
      have hE0 : Below (V4.heap.size) V4 V4.drew := (Below.refl _ _).drew
      clear hy
      generalize V4.drew = Y6x0 at hE0  ⊢
      have E0 := Lib.hid hE0
      clear hE0
      refine tkA 0 (.agg c1) ?_ E0.out ?_
      · (intro w1 hS; have hW := hS; exact exec_load 25 (.tmp 6) rfl _ rfl _ (run_blk_load (P := Try.prog) 25 (w.heap.size) _ (N1.out.below hW (by omega)) Try.underlying25 rfl I1.out))
      simp only [Act.put, tS1, tS2, tS3]
      refine tkA 2 (.agg c2) ?_ E0.out ?_
      · (intro w1 hS; have hW := hS; exact exec_load 25 (.tmp 7) rfl _ rfl _ (run_blk_load (P := Try.prog) 25 (w.heap.size + 1) _ (N2.out.below hW (by omega)) Try.underlying25 rfl I2.out))
      simp only [Act.put, tS1, tS2, tS3]
      refine tkO 1 (fun KK hK => ?_)
      go_simp
      refine (CB1.out Y6x0).mono ?_
      rintro e Y6x1 ⟨z1, rfl, hz1, hy⟩
      have E1 := Lib.hid (E0.out.trans (hy.mono (Nat.le_trans hlow E0.out.size)))
      have C1 := Lib.hid E1.out
      have Z1 := Lib.hid (own_low E0.out.size hz1)
      clear hz1
      clear hy E0
      refine hK.out _ _ C1.out (fun _ => ?_)
      clear hK KK
      clear C1
      try simp only [Act.put, tS1, tS2, tS3]
      obtain ⟨g1, k1, rfl, -, -, hg1, -⟩ := own_at Z1.out (by omega)
      refine tkO 3 (fun KK hK => ?_)
      go_simp
      refine (CB2.out Y6x1).mono ?_
      rintro e Y6x2 ⟨z2, rfl, hz2, hy⟩
      replace Z1 := Lib.hid (row_under Z1.out hy)
      have E2 := Lib.hid (E1.out.trans (hy.mono (Nat.le_trans hlow E1.out.size)))
      have C2 := Lib.hid E2.out
      have Z2 := Lib.hid (hz2)
      clear hz2
      clear hy E1
      refine hK.out _ _ C2.out (fun _ => ?_)
      clear hK KK
      clear C2
      try simp only [Act.put, tS1, tS2, tS3]
      obtain ⟨g2, k2, rfl, -, -, -, -⟩ := own_at Z2.out (by omega)
      refine tkO 4 (fun KK hK => ?_)
      rw [if_pos (by rfl)]
      refine wp_app (.tmp 36) (.tmp 38) rfl (V4.heap.size) (.slice (some ⟨g1, 0, none⟩) m1 k1) m1 bf rfl Z1.out (some ⟨g2, 0, none⟩) (m2) (k2) bd rfl (Rd.own Z2.out) (by intro e; cases e) (by omega) (Nat.le_trans hlow E2.out.size) ?_
      intro vx Y6x3 oz gz
      clear Z2
      replace Z1 := Lib.hid oz
      clear oz
      have E3 := Lib.hid (E2.out.grown gz (Nat.le_trans hlow E2.out.size) (fun k e => by cases e; first | exact Nat.le_refl _ | omega))
      obtain ⟨g3, k3, rfl, hk3, hk3m, hg3, hg3u⟩ := own_at Z1.out (by omega)
      clear gz E2
      refine hK.out _ _ E3.out (fun _ => ?_)
      clear hK KK
      try simp only [Act.put, tS1, tS2, tS3]
      refine tkA 5 (?_) ?_ E3.out ?_
      rotate_left
      · (intro w1 hS; go_simp; try with_reducible rfl)
      simp only [Act.put, tS1, tS2, tS3]
      refine wpAnyH_done (by kernel_rfl) ?_ _
      replace K := Lib.hid (K.out.trans (E3.out.mono (by omega)))
      replace N1 := Lib.hid (N1.out.below E3.out (by omega))
      replace N2 := Lib.hid (N2.out.below E3.out (by omega))
      replace NS := Lib.hid (NS.out.below E3.out (by omega))
      clear E3
      have O := Lib.hid (own_low qK Z1.out)
      have L := Lib.hid K.out
      clear K Z1 N2 NS
      have hc1 := (N1.out.cell 0).trans E1.out
      clear N1
      cases v1 with
      | true =>
        have hal := (Below.refl Y6x3.heap.size Y6x3).alloc (Nat.le_refl _) (.cells #[.int .u8 (d1 : Int), .int .u8 (d2 : Int), .int .u8 (d3 : Int), .int .u8 (d4 : Int), Value.int .u8 0, Value.int .u8 0, Value.int .u8 0, Value.int .u8 17] 5)
        have RL := Lib.hid (show Rd (Y6x3.alloc (.cells #[.int .u8 (d1 : Int), .int .u8 (d2 : Int), .int .u8 (d3 : Int), .int .u8 (d4 : Int), Value.int .u8 0, Value.int .u8 0, Value.int .u8 0, Value.int .u8 17] 5)) (.slice (some ⟨Y6x3.heap.size, 0, none⟩) 8 8) (nus .u8 [d1, d2, d3, d4, 0, 0, 0, 17]) from rd_lit Y6x3 .u8 5 [d1, d2, d3, d4, 0, 0, 0, 17] 8 (0, 0) rfl (by simp [maxLen]))
        replace O := Lib.hid (row_under O.out hal)
        replace L := Lib.hid (L.out.trans (hal.mono L.out.size))
        clear hal
        go_wp2_with ((at_builtin; refine wpList_app rfl (.tmp 44) (.tmp 57) rfl w.heap.size _ (m1 + m2) (bf ++ bd) rfl O.out (some ⟨Y6x3.heap.size, 0, none⟩) (8) (8) [d1, d2, d3, d4, 0, 0, 0, 17] rfl (RL.out) (by intro e; cases e) ?ap3b ?ap3c ?ap3d))
        case ap3b => omega
        case ap3c => first | exact L.out.size | (have q := L.out.size; simp only [World.size_alloc] at q; exact q)
        intro vx V5 oz gz
        replace L := Lib.hid (L.out.grown gz L.out.size (fun k e => by first | exact (O.out.lt k e).1 | (cases e; first | exact Nat.le_refl _ | omega)))
        have oz : V5.ownsRow w.heap.size 5 1 vx (m1 + m2 + 8) (nus .u8 (bf ++ bd ++ [d1, d2, d3, d4, 0, 0, 0, 17])) := by first | exact oz | simpa using oz
        replace O := Lib.hid oz
        obtain ⟨gr, kr, rfl, hkr, hkrm, hgr, hgru⟩ := own_at O.out (by omega)
        clear oz gz
        have e : bf ++ bd ++ [d1, d2, d3, d4, 0, 0, 0, 17] = ps := by rw [HX.out]; simp
        have O3 := O.out
        rw [e] at O3
        replace O := Lib.hid O3
        clear e O3 HX hc1
        go_wp2_with ((at_builtin; refine wpList_app rfl (.tmp 68) (.tmp 69) rfl w.heap.size _ (m1 + m2 + 8) ps rfl O.out (some ⟨b, off, none⟩) (n) (cap) zs rfl (HR.out.below L.out) (by intro e; cases e) ?ap4b ?ap4c ?ap4d))
        case ap4b => omega
        case ap4c => first | exact L.out.size | (have q := L.out.size; simp only [World.size_alloc] at q; exact q)
        intro vx V6 oz gz
        replace L := Lib.hid (L.out.grown gz L.out.size (fun k e => by first | exact (O.out.lt k e).1 | (cases e; first | exact Nat.le_refl _ | omega)))
        have oz : V6.ownsRow w.heap.size 5 1 vx (m1 + m2 + 8 + n) (nus .u8 (ps ++ zs)) := by first | exact oz | simpa using oz
        replace O := Lib.hid oz
        obtain ⟨gs, ks, rfl, hks, hksm, hgs, hgsu⟩ := own_at O.out (by omega)
        clear oz gz
        go_wp2_with fail
        refine (CSM.out _ _ (Rd.own O.out)).mono ?_
        rintro e wz ⟨rfl, rfl⟩
        cases dq with
        | true =>
          have e := of_decide_eq_true HDQ.out
          subst e
          go_wp2
          go_ret
          exact ⟨rfl, L.out⟩
        | false =>
          have e := of_decide_eq_false HDQ.out
          have ge : ((gt : Int) == 65535) = false := by rw [beq_eq_false_iff_ne]; omega
          clear e
          go_wp2
          go_ret
          exact ⟨rfl, L.out⟩
      | false =>
        have hal := (Below.refl Y6x3.heap.size Y6x3).alloc (Nat.le_refl _) (.cells #[Value.int .u8 0, Value.int .u8 17, .int .u8 (d3 : Int), .int .u8 (d4 : Int)] 5)
        have RL := Lib.hid (show Rd (Y6x3.alloc (.cells #[Value.int .u8 0, Value.int .u8 17, .int .u8 (d3 : Int), .int .u8 (d4 : Int)] 5)) (.slice (some ⟨Y6x3.heap.size, 0, none⟩) 4 4) (nus .u8 [0, 17, d3, d4]) from rd_lit Y6x3 .u8 5 [0, 17, d3, d4] 4 (0, 0) rfl (by simp [maxLen]))
        replace O := Lib.hid (row_under O.out hal)
        replace L := Lib.hid (L.out.trans (hal.mono L.out.size))
        clear hal
        go_wp2_with ((at_builtin; refine wpList_app rfl (.tmp 59) (.tmp 66) rfl w.heap.size _ (m1 + m2) (bf ++ bd) rfl O.out (some ⟨Y6x3.heap.size, 0, none⟩) (4) (4) [0, 17, d3, d4] rfl (RL.out) (by intro e; cases e) ?ap5b ?ap5c ?ap5d))
        case ap5b => omega
        case ap5c => first | exact L.out.size | (have q := L.out.size; simp only [World.size_alloc] at q; exact q)
        intro vx V5 oz gz
        replace L := Lib.hid (L.out.grown gz L.out.size (fun k e => by first | exact (O.out.lt k e).1 | (cases e; first | exact Nat.le_refl _ | omega)))
        have oz : V5.ownsRow w.heap.size 5 1 vx (m1 + m2 + 4) (nus .u8 (bf ++ bd ++ [0, 17, d3, d4])) := by first | exact oz | simpa using oz
        replace O := Lib.hid oz
        obtain ⟨gr, kr, rfl, hkr, hkrm, hgr, hgru⟩ := own_at O.out (by omega)
        clear oz gz
        have e : bf ++ bd ++ [0, 17, d3, d4] = ps := by rw [HX.out]; simp
        have O3 := O.out
        rw [e] at O3
        replace O := Lib.hid O3
        clear e O3 HX hc1
        go_wp2_with ((at_builtin; refine wpList_app rfl (.tmp 68) (.tmp 69) rfl w.heap.size _ (m1 + m2 + 4) ps rfl O.out (some ⟨b, off, none⟩) (n) (cap) zs rfl (HR.out.below L.out) (by intro e; cases e) ?ap6b ?ap6c ?ap6d))
        case ap6b => omega
        case ap6c => first | exact L.out.size | (have q := L.out.size; simp only [World.size_alloc] at q; exact q)
        intro vx V6 oz gz
        replace L := Lib.hid (L.out.grown gz L.out.size (fun k e => by first | exact (O.out.lt k e).1 | (cases e; first | exact Nat.le_refl _ | omega)))
        have oz : V6.ownsRow w.heap.size 5 1 vx (m1 + m2 + 4 + n) (nus .u8 (ps ++ zs)) := by first | exact oz | simpa using oz
        replace O := Lib.hid oz
        obtain ⟨gs, ks, rfl, hks, hksm, hgs, hgsu⟩ := own_at O.out (by omega)
        clear oz gz
        go_wp2_with fail
        refine (CSM.out _ _ (Rd.own O.out)).mono ?_
        rintro e wz ⟨rfl, rfl⟩
        cases dq with
        | true =>
          have e := of_decide_eq_true HDQ.out
          subst e
          go_wp2
          go_ret
          exact ⟨rfl, L.out⟩
        | false =>
          have e := of_decide_eq_false HDQ.out
          have ge : ((gt : Int) == 65535) = false := by rw [beq_eq_false_iff_ne]; omega
          clear e
          go_wp2
          go_ret
          exact ⟨rfl, L.out⟩
  · have g4 : ((p : Int) == 17) = false := by rw [beq_eq_false_iff_ne]; omega
    obtain rfl : wq = false := by rw [HW.out, decide_eq_false (by omega)]
    clear HW h17
    go_upto_region 6 with fail
    clear hc1 hc2 ge
    have hlow : V3.heap.size ≤ V3.heap.size := Nat.le_refl _
    have qK := K.out.size
    have qN1 := N1.out.lt
    have qN2 := N2.out.lt
    have qNS := NS.out.lt
    refine wp_region_held (S := (fun w' : World => Below (V3.heap.size) V3 w')) (by kernel_rfl) ?_
    change wpAnyH _ _ _ _ _ _ _ _ V3.drew
    have hy : Below V3.heap.size V3 V3.drew := (Below.refl _ _).drew
    have hE0 : Below (V3.heap.size) V3 V3.drew := (Below.refl _ _).drew
    clear hy
    generalize V3.drew = Y6x0 at hE0  ⊢
    have E0 := Lib.hid hE0
    clear hE0
    refine tkA 0 (.agg c1) ?_ E0.out ?_
    · (intro w1 hS; have hW := hS; exact exec_load 25 (.tmp 6) rfl _ rfl _ (run_blk_load (P := Try.prog) 25 (w.heap.size) _ (N1.out.below hW (by omega)) Try.underlying25 rfl I1.out))
    simp only [Act.put, tS1, tS2, tS3]
    refine tkA 2 (.agg c2) ?_ E0.out ?_
    · (intro w1 hS; have hW := hS; exact exec_load 25 (.tmp 7) rfl _ rfl _ (run_blk_load (P := Try.prog) 25 (w.heap.size + 1) _ (N2.out.below hW (by omega)) Try.underlying25 rfl I2.out))
    simp only [Act.put, tS1, tS2, tS3]
    refine tkO 1 (fun KK hK => ?_)
    go_simp
    refine (CB1.out Y6x0).mono ?_
    rintro e Y6x1 ⟨z1, rfl, hz1, hy⟩
    have E1 := Lib.hid (E0.out.trans (hy.mono (Nat.le_trans hlow E0.out.size)))
    have C1 := Lib.hid E1.out
    have Z1 := Lib.hid (own_low E0.out.size hz1)
    clear hz1
    clear hy E0
    refine hK.out _ _ C1.out (fun _ => ?_)
    clear hK KK
    clear C1
    try simp only [Act.put, tS1, tS2, tS3]
    obtain ⟨g1, k1, rfl, -, -, hg1, -⟩ := own_at Z1.out (by omega)
    refine tkO 3 (fun KK hK => ?_)
    go_simp
    refine (CB2.out Y6x1).mono ?_
    rintro e Y6x2 ⟨z2, rfl, hz2, hy⟩
    replace Z1 := Lib.hid (row_under Z1.out hy)
    have E2 := Lib.hid (E1.out.trans (hy.mono (Nat.le_trans hlow E1.out.size)))
    have C2 := Lib.hid E2.out
    have Z2 := Lib.hid (hz2)
    clear hz2
    clear hy E1
    refine hK.out _ _ C2.out (fun _ => ?_)
    clear hK KK
    clear C2
    try simp only [Act.put, tS1, tS2, tS3]
    obtain ⟨g2, k2, rfl, -, -, -, -⟩ := own_at Z2.out (by omega)
    refine tkO 4 (fun KK hK => ?_)
    rw [if_pos (by rfl)]
    refine wp_app (.tmp 36) (.tmp 38) rfl (V3.heap.size) (.slice (some ⟨g1, 0, none⟩) m1 k1) m1 bf rfl Z1.out (some ⟨g2, 0, none⟩) (m2) (k2) bd rfl (Rd.own Z2.out) (by intro e; cases e) (by omega) (Nat.le_trans hlow E2.out.size) ?_
    intro vx Y6x3 oz gz
    clear Z2
    replace Z1 := Lib.hid oz
    clear oz
    have E3 := Lib.hid (E2.out.grown gz (Nat.le_trans hlow E2.out.size) (fun k e => by cases e; first | exact Nat.le_refl _ | omega))
    obtain ⟨g3, k3, rfl, hk3, hk3m, hg3, hg3u⟩ := own_at Z1.out (by omega)
    clear gz E2
    refine hK.out _ _ E3.out (fun _ => ?_)
    clear hK KK
    try simp only [Act.put, tS1, tS2, tS3]
    refine tkA 5 (?_) ?_ E3.out ?_
    rotate_left
    · (intro w1 hS; go_simp; try with_reducible rfl)
    simp only [Act.put, tS1, tS2, tS3]
    refine wpAnyH_done (by kernel_rfl) ?_ _
    replace K := Lib.hid (K.out.trans (E3.out.mono (by omega)))
    replace N1 := Lib.hid (N1.out.below E3.out (by omega))
    replace N2 := Lib.hid (N2.out.below E3.out (by omega))
    replace NS := Lib.hid (NS.out.below E3.out (by omega))
    clear E3
    have O := Lib.hid (own_low qK Z1.out)
    have L := Lib.hid K.out
    clear K Z1 N2 NS
    have hc1 := (N1.out.cell 0).trans E1.out
    clear N1
    cases v1 with
    | true =>
      have hal := (Below.refl Y6x3.heap.size Y6x3).alloc (Nat.le_refl _) (.cells #[.int .u8 (d1 : Int), .int .u8 (d2 : Int), .int .u8 (d3 : Int), .int .u8 (d4 : Int), Value.int .u8 0, Value.int .u8 0, Value.int .u8 0, .int .u8 (p : Int)] 5)
      have RL := Lib.hid (show Rd (Y6x3.alloc (.cells #[.int .u8 (d1 : Int), .int .u8 (d2 : Int), .int .u8 (d3 : Int), .int .u8 (d4 : Int), Value.int .u8 0, Value.int .u8 0, Value.int .u8 0, .int .u8 (p : Int)] 5)) (.slice (some ⟨Y6x3.heap.size, 0, none⟩) 8 8) (nus .u8 [d1, d2, d3, d4, 0, 0, 0, p]) from rd_lit Y6x3 .u8 5 [d1, d2, d3, d4, 0, 0, 0, p] 8 (0, 0) rfl (by simp [maxLen]))
      replace O := Lib.hid (row_under O.out hal)
      replace L := Lib.hid (L.out.trans (hal.mono L.out.size))
      clear hal
      go_wp2_with ((at_builtin; refine wpList_app rfl (.tmp 44) (.tmp 57) rfl w.heap.size _ (m1 + m2) (bf ++ bd) rfl O.out (some ⟨Y6x3.heap.size, 0, none⟩) (8) (8) [d1, d2, d3, d4, 0, 0, 0, p] rfl (RL.out) (by intro e; cases e) ?ap7b ?ap7c ?ap7d))
      case ap7b => omega
      case ap7c => first | exact L.out.size | (have q := L.out.size; simp only [World.size_alloc] at q; exact q)
      intro vx V4 oz gz
      replace L := Lib.hid (L.out.grown gz L.out.size (fun k e => by first | exact (O.out.lt k e).1 | (cases e; first | exact Nat.le_refl _ | omega)))
      have oz : V4.ownsRow w.heap.size 5 1 vx (m1 + m2 + 8) (nus .u8 (bf ++ bd ++ [d1, d2, d3, d4, 0, 0, 0, p])) := by first | exact oz | simpa using oz
      replace O := Lib.hid oz
      obtain ⟨gr, kr, rfl, hkr, hkrm, hgr, hgru⟩ := own_at O.out (by omega)
      clear oz gz
      have e : bf ++ bd ++ [d1, d2, d3, d4, 0, 0, 0, p] = ps := by rw [HX.out]; simp
      have O3 := O.out
      rw [e] at O3
      replace O := Lib.hid O3
      clear e O3 HX hc1
      go_wp2_with ((at_builtin; refine wpList_app rfl (.tmp 68) (.tmp 69) rfl w.heap.size _ (m1 + m2 + 8) ps rfl O.out (some ⟨b, off, none⟩) (n) (cap) zs rfl (HR.out.below L.out) (by intro e; cases e) ?ap8b ?ap8c ?ap8d))
      case ap8b => omega
      case ap8c => first | exact L.out.size | (have q := L.out.size; simp only [World.size_alloc] at q; exact q)
      intro vx V5 oz gz
      replace L := Lib.hid (L.out.grown gz L.out.size (fun k e => by first | exact (O.out.lt k e).1 | (cases e; first | exact Nat.le_refl _ | omega)))
      have oz : V5.ownsRow w.heap.size 5 1 vx (m1 + m2 + 8 + n) (nus .u8 (ps ++ zs)) := by first | exact oz | simpa using oz
      replace O := Lib.hid oz
      obtain ⟨gs, ks, rfl, hks, hksm, hgs, hgsu⟩ := own_at O.out (by omega)
      clear oz gz
      go_wp2_with fail
      refine (CSM.out _ _ (Rd.own O.out)).mono ?_
      rintro e wz ⟨rfl, rfl⟩
      cases dq with
      | true =>
        have e := of_decide_eq_true HDQ.out
        subst e
        go_wp2
        go_ret
        exact ⟨rfl, L.out⟩
      | false =>
        have e := of_decide_eq_false HDQ.out
        have ge : ((gt : Int) == 65535) = false := by rw [beq_eq_false_iff_ne]; omega
        clear e
        go_wp2
        go_ret
        exact ⟨rfl, L.out⟩
    | false =>
      have hal := (Below.refl Y6x3.heap.size Y6x3).alloc (Nat.le_refl _) (.cells #[Value.int .u8 0, .int .u8 (p : Int), .int .u8 (d3 : Int), .int .u8 (d4 : Int)] 5)
      have RL := Lib.hid (show Rd (Y6x3.alloc (.cells #[Value.int .u8 0, .int .u8 (p : Int), .int .u8 (d3 : Int), .int .u8 (d4 : Int)] 5)) (.slice (some ⟨Y6x3.heap.size, 0, none⟩) 4 4) (nus .u8 [0, p, d3, d4]) from rd_lit Y6x3 .u8 5 [0, p, d3, d4] 4 (0, 0) rfl (by simp [maxLen]))
      replace O := Lib.hid (row_under O.out hal)
      replace L := Lib.hid (L.out.trans (hal.mono L.out.size))
      clear hal
      go_wp2_with ((at_builtin; refine wpList_app rfl (.tmp 59) (.tmp 66) rfl w.heap.size _ (m1 + m2) (bf ++ bd) rfl O.out (some ⟨Y6x3.heap.size, 0, none⟩) (4) (4) [0, p, d3, d4] rfl (RL.out) (by intro e; cases e) ?ap9b ?ap9c ?ap9d))
      case ap9b => omega
      case ap9c => first | exact L.out.size | (have q := L.out.size; simp only [World.size_alloc] at q; exact q)
      intro vx V4 oz gz
      replace L := Lib.hid (L.out.grown gz L.out.size (fun k e => by first | exact (O.out.lt k e).1 | (cases e; first | exact Nat.le_refl _ | omega)))
      have oz : V4.ownsRow w.heap.size 5 1 vx (m1 + m2 + 4) (nus .u8 (bf ++ bd ++ [0, p, d3, d4])) := by first | exact oz | simpa using oz
      replace O := Lib.hid oz
      obtain ⟨gr, kr, rfl, hkr, hkrm, hgr, hgru⟩ := own_at O.out (by omega)
      clear oz gz
      have e : bf ++ bd ++ [0, p, d3, d4] = ps := by rw [HX.out]; simp
      have O3 := O.out
      rw [e] at O3
      replace O := Lib.hid O3
      clear e O3 HX hc1
      go_wp2_with ((at_builtin; refine wpList_app rfl (.tmp 68) (.tmp 69) rfl w.heap.size _ (m1 + m2 + 4) ps rfl O.out (some ⟨b, off, none⟩) (n) (cap) zs rfl (HR.out.below L.out) (by intro e; cases e) ?ap10b ?ap10c ?ap10d))
      case ap10b => omega
      case ap10c => first | exact L.out.size | (have q := L.out.size; simp only [World.size_alloc] at q; exact q)
      intro vx V5 oz gz
      replace L := Lib.hid (L.out.grown gz L.out.size (fun k e => by first | exact (O.out.lt k e).1 | (cases e; first | exact Nat.le_refl _ | omega)))
      have oz : V5.ownsRow w.heap.size 5 1 vx (m1 + m2 + 4 + n) (nus .u8 (ps ++ zs)) := by first | exact oz | simpa using oz
      replace O := Lib.hid oz
      obtain ⟨gs, ks, rfl, hks, hksm, hgs, hgsu⟩ := own_at O.out (by omega)
      clear oz gz
      go_wp2_with fail
      refine (CSM.out _ _ (Rd.own O.out)).mono ?_
      rintro e wz ⟨rfl, rfl⟩
      cases dq with
      | true =>
        have e := of_decide_eq_true HDQ.out
        subst e
        go_wp2
        go_ret
        exact ⟨rfl, L.out⟩
      | false =>
        have e := of_decide_eq_false HDQ.out
        have ge : ((gt : Int) == 65535) = false := by rw [beq_eq_false_iff_ne]; omega
        clear e
        go_wp2
        go_ret
        exact ⟨rfl, L.out⟩
theorem rgood_any (p : Nat) (v : Value) (zs : List Nat) (v1 : Bool) (S : List Nat) (v2 : Bool) (D : List Nat) (w : World) (hr : Rd w v (nus .u8 zs)) (hb : ∀ c ∈ zs, c < 256) (hz : zs.length ≤ 3000) (hp : p < 256)
    (hS : S.length = 16) (hD : D.length = 16) (hbS : ∀ c ∈ S, c < 256) (hbD : ∀ c ∈ D, c < 256) :
    Calls Try.prog 37 #[.int .u8 (p : Int), v, adr v1 S, adr v2 D] w fun e w' => e = .returned (.bool (gd p zs v1 S v2 D)) ∧ Below w.heap.size w w' := by
  unfold gd
  by_cases h : fs p zs = 0 ∧ v1 = v2
  · rw [decide_eq_true h, Bool.true_and]
    obtain ⟨h1, rfl⟩ := h
    exact rgood_yes p v zs v1 S D w hr hb h1 hz hp hS hD hbS hbD
  · rw [decide_eq_false h, Bool.false_and]
    exact rgood_no p v zs v1 S v2 D w hr hb (by by_cases h1 : fs p zs = 0; exact .inr (fun e => h ⟨h1, e⟩); exact .inl h1)
end Go.Proofs.Ythionipmohbnhaa
namespace Go.Proofs.Ythionipmohbnhaa
open Go.RowKit
theorem vpart (six : Bool) (n s e f p a b : Nat) (S D : Array Value) (hS : S.size = 17) (hD : D.size = 17) : ((vcells six n s e (kcells p S D a b) f).toList.drop 5).take S.toList.length = S.toList ∧ ((vcells six n s e (kcells p S D a b) f).toList.drop 22).take D.toList.length = D.toList := by
  obtain ⟨x0, x1, x2, x3, x4, x5, x6, x7, x8, x9, x10, x11, x12, x13, x14, x15, x16, rfl⟩ := arr17 S hS
  obtain ⟨y0, y1, y2, y3, y4, y5, y6, y7, y8, y9, y10, y11, y12, y13, y14, y15, y16, rfl⟩ := arr17 D hD
  exact ⟨rfl, rfl⟩
set_option maxRecDepth 100000 in
set_option maxHeartbeats 4000000 in
theorem rfgood_any (v : Value) (zs : List Nat) (w : World) (hr : Rd w v (nus .u8 zs)) (hb : ∀ c ∈ zs, c < 256) (hz : zs.length ≤ 3000) :
    Calls Try.prog 16 #[v] w fun e w' => e = .returned (.bool (gf zs)) ∧ Below w.heap.size w w' := by
  have CF := Lib.hid (fun W (h : Rd W v (nus .u8 zs)) => rframe_any v zs W h hb hz)
  have YVW : Hid ((vw zs).size = Array.size (ZcV : Array Value)) := vw_size zs
  have QVW := Lib.hid (i72.trans (congrArg some (vw_size zs).symm))
  have AVW := Lib.hid (vw_all zs)
  have K := Lib.hid (Below.refl w.heap.size w)
  have HR := Lib.hid hr
  obtain ⟨a, cap, rfl, hlc, hlm⟩ := rd_shape hr
  by_cases h0 : rr zs = 0
  case neg =>
    have hgf : gf zs = false := by unfold gf; rw [decide_eq_false h0]; rfl
    rw [hgf]
    have g0 : ((rr zs : Int) == 0) = false := by rw [beq_eq_false_iff_ne]; omega
    clear hr hb hgf h0
    generalize rr zs = r at *
    generalize vw zs = VW at *
    generalize zs.length = n at *
    go_enter Try.func16, Try.ntmps16
    go_wp2_with fail
    refine (CF.out _ (HR.out.below K.out)).mono ?_
    rintro e V1 ⟨rfl, hy⟩
    replace K := Lib.hid (K.out.trans (hy.mono K.out.size))
    clear hy
    go_wp2_with (((with_reducible refine wpList_blk_store (op := ⟨none, .store 42 (.tmp 3) (.tmp 8), _, _, _, _⟩) ?sg3 42 (.tmp 3) (.tmp 8) ?so3 (V1.heap.size) VW ?sx3 ?sy3 (Blk.new V1 42 ZcV) YVW.out QVW.out AVW.out ?_); (case sg3 => rfl); (case so3 => rfl); (case sx3 => rfl); (case sy3 => rfl)))
    intro V2 hA hF hB
    have hy := ((Below.refl V1.heap.size V1).alloc (Nat.le_refl _) (.cells ZcV 42)).trans (hB _ (Nat.le_refl _))
    replace K := Lib.hid (K.out.trans (hy.mono K.out.size))
    have HX := Lib.hid hA
    clear hA hF hB hy
    go_wp2_with fail
    refine wp_region_held (S := (fun w' : World => Below (V2.heap.size) V2 w')) (by kernel_rfl) ?_
    change wpAnyH _ _ _ _ _ _ _ _ V2.drew
    have hy : Below V2.heap.size V2 V2.drew := (Below.refl _ _).drew
    have hE0 : Below (V2.heap.size) V2 V2.drew := (Below.refl _ _).drew
    clear hy
    generalize V2.drew = Y2x0 at hE0  ⊢
    have E0 := Lib.hid hE0
    clear hE0
    refine tkA 0 (?_) ?_ E0.out ?_
    rotate_left
    · (intro w1 hS; go_simp; try with_reducible rfl)
    simp only [Act.put, tS1, tS2, tS3]
    refine tkA 1 (?_) ?_ E0.out ?_
    rotate_left
    · (intro w1 hS; go_simp; try with_reducible rfl)
    simp only [Act.put, tS1, tS2, tS3]
    refine tkA 2 (?_) ?_ E0.out ?_
    rotate_left
    · (intro w1 hS; go_simp; try with_reducible rfl)
    simp only [Act.put, tS1, tS2, tS3]
    refine tkN 3 E0.out ?_
    simp only [Act.put, tS1, tS2, tS3]
    refine tkN 4 E0.out ?_
    simp only [Act.put, tS1, tS2, tS3]
    refine tkN 5 E0.out ?_
    simp only [Act.put, tS1, tS2, tS3]
    refine tkN 6 E0.out ?_
    simp only [Act.put, tS1, tS2, tS3]
    refine tkN 7 E0.out ?_
    simp only [Act.put, tS1, tS2, tS3]
    refine tkN 8 E0.out ?_
    simp only [Act.put, tS1, tS2, tS3]
    refine tkN 9 E0.out ?_
    simp only [Act.put, tS1, tS2, tS3]
    refine tkN 10 E0.out ?_
    simp only [Act.put, tS1, tS2, tS3]
    refine tkN 11 E0.out ?_
    simp only [Act.put, tS1, tS2, tS3]
    refine tkN 12 E0.out ?_
    simp only [Act.put, tS1, tS2, tS3]
    refine tkN 13 E0.out ?_
    simp only [Act.put, tS1, tS2, tS3]
    refine tkN 14 E0.out ?_
    simp only [Act.put, tS1, tS2, tS3]
    refine tkN 15 E0.out ?_
    simp only [Act.put, tS1, tS2, tS3]
    refine tkN 16 E0.out ?_
    simp only [Act.put, tS1, tS2, tS3]
    refine tkN 17 E0.out ?_
    simp only [Act.put, tS1, tS2, tS3]
    refine tkN 18 E0.out ?_
    simp only [Act.put, tS1, tS2, tS3]
    refine tkA 19 (?_) ?_ E0.out ?_
    rotate_left
    · (intro w1 hS; go_simp; try with_reducible rfl)
    simp only [Act.put, tS1, tS2, tS3]
    refine tkA 20 (?_) ?_ E0.out ?_
    rotate_left
    · (intro w1 hS; go_simp; try with_reducible rfl)
    simp only [Act.put, tS1, tS2, tS3]
    refine wpAnyH_done (by kernel_rfl) ?_ _
    have hy := E0.out
    replace K := Lib.hid (K.out.trans (hy.mono K.out.size))
    replace HX := Lib.hid (HX.out.below hy HX.out.lt)
    clear hy E0
    go_wp2
    go_ret
    exact ⟨rfl, K.out⟩
  obtain ⟨hn, hf, hs⟩ := rr_yes zs h0
  obtain ⟨hat, hatl, -⟩ := net_ok zs hn
  have HDD := fhd_yes _ _ hf
  have hlow := HDD.low
  have hmid := HDD.mid
  have hhigh := HDD.high
  have hpr := HDD.pr
  have hsS := HDD.sA
  have hsD := HDD.sB
  have hbT : ∀ c ∈ pkt zs, c < 256 := fun c hc => hb c (List.mem_of_mem_drop hc)
  have hbP : ∀ c ∈ sgm zs, c < 256 := fun c hc => hb c (List.mem_of_mem_drop (List.mem_of_mem_take hc))
  have lT : (pkt zs).length = zs.length - (net zs).1 := by unfold pkt; rw [List.length_drop]
  rw [lT] at hhigh
  have hvw : vw zs = vcells (sixF zs) (net zs).1 ((net zs).1 + fS (sixF zs) (pkt zs)) ((net zs).1 + fL (sixF zs) (pkt zs)) (keyF zs) (fl (fP (sixF zs) (pkt zs)) (sgm zs)) := by unfold vw; rw [if_pos h0]
  unfold keyF at hvw
  obtain ⟨sg, hsg⟩ : ∃ x, x = (net zs).1 + fS (sixF zs) (pkt zs) := ⟨_, rfl⟩
  obtain ⟨en, hen⟩ : ∃ x, x = (net zs).1 + fL (sixF zs) (pkt zs) := ⟨_, rfl⟩
  rw [← hsg, ← hen] at hvw
  have hpt : sgm zs = (zs.drop sg).take (en - sg) := by
    unfold sgm; rw [← hsg, show fL (sixF zs) (pkt zs) - fS (sixF zs) (pkt zs) = en - sg by omega]
  have hlP : (sgm zs).length ≤ zs.length := by rw [hpt, List.length_take, List.length_drop]; omega
  obtain ⟨b, off, rfl, -⟩ := hr.cells (by omega)
  have hRP := subP hr sg (en - sg) (by omega)
  rw [← hpt] at hRP
  have hgf : gf zs = gd (fP (sixF zs) (pkt zs)) (sgm zs) (sixF zs) (lA (sixF zs) (pkt zs)) (sixF zs) (lB (sixF zs) (pkt zs)) := by unfold gf; rw [decide_eq_true h0, Bool.true_and]
  have hbk := (fun W z (h : Rd W z (nus .u8 (sgm zs))) => rgood_any (fP (sixF zs) (pkt zs)) z (sgm zs) (sixF zs) (lA (sixF zs) (pkt zs)) (sixF zs) (lB (sixF zs) (pkt zs)) W h hbP (by omega) (by omega) (lA_len _ _ hf) (lB_len _ _ hf) (lA_lt _ _ hbT) (lB_lt _ _ hbT))
  rw [← hgf, ← lA_eq, ← lB_eq] at hbk
  have CG := Lib.hid hbk
  obtain ⟨q5, q22⟩ := vpart (sixF zs) (net zs).1 sg en (fl (fP (sixF zs) (pkt zs)) (sgm zs)) (fP (sixF zs) (pkt zs)) (u2 (sgm zs) 0) (u2 (sgm zs) 2) _ _ hsS hsD
  obtain ⟨-, -, q2, q3, q4⟩ := vget (sixF zs) (net zs).1 sg en (fl (fP (sixF zs) (pkt zs)) (sgm zs)) (fP (sixF zs) (pkt zs)) (u2 (sgm zs) 0) (u2 (sgm zs) 2) (fA (sixF zs) (pkt zs)) (fB (sixF zs) (pkt zs))
  rw [← hvw] at q5 q22 q2 q3 q4
  obtain ⟨P2, hP3⟩ : ∃ P, P = (if cap = sg then some (⟨b, off, none⟩ : Addr) else some ⟨b, off + sg, none⟩) := ⟨_, rfl⟩
  rw [← hP3] at hRP
  have RP := Lib.hid hRP
  have HP2 := Lib.hid hP3
  have H2 := Lib.hid q2
  have H3 := Lib.hid q3
  have H4 := Lib.hid q4
  have PS := Lib.hid q5
  have PD := Lib.hid q22
  have IS := Lib.hid (i24.trans (congrArg some (show (17 : Nat) = (fA (sixF zs) (pkt zs)).toList.length by simp [hsS])))
  have ID := Lib.hid (i24.trans (congrArg some (show (17 : Nat) = (fB (sixF zs) (pkt zs)).toList.length by simp [hsD])))
  rw [h0] at CF
  have hse : sg ≤ en := by omega
  have hen2 : en ≤ zs.length := by omega
  unfold maxLen at hlm
  clear hr hb h0 hn hf hs hat hatl HDD hlow hmid hhigh hpr hsS hsD hbT hbP lT hvw hsg hen hpt hlP hRP hgf hbk q2 q3 q4 q5 q22 hP3 hz
  generalize gf zs = GF at *
  generalize fA (sixF zs) (pkt zs) = S at *
  generalize fB (sixF zs) (pkt zs) = D at *
  generalize fP (sixF zs) (pkt zs) = p at *
  generalize sgm zs = PT at *
  generalize vw zs = VW at *
  generalize zs.length = n at *
  go_enter Try.func16, Try.ntmps16
  go_wp2_with fail
  refine (CF.out _ (HR.out.below K.out)).mono ?_
  rintro e V1 ⟨rfl, hy⟩
  replace K := Lib.hid (K.out.trans (hy.mono K.out.size))
  clear hy
  go_wp2_with (((with_reducible refine wpList_blk_store (op := ⟨none, .store 42 (.tmp 3) (.tmp 8), _, _, _, _⟩) ?sg4 42 (.tmp 3) (.tmp 8) ?so4 (V1.heap.size) VW ?sx4 ?sy4 (Blk.new V1 42 ZcV) YVW.out QVW.out AVW.out ?_); (case sg4 => rfl); (case so4 => rfl); (case sx4 => rfl); (case sy4 => rfl)))
  intro V2 hA hF hB
  have hy := ((Below.refl V1.heap.size V1).alloc (Nat.le_refl _) (.cells ZcV 42)).trans (hB _ (Nat.le_refl _))
  replace K := Lib.hid (K.out.trans (hy.mono K.out.size))
  have HX := Lib.hid hA
  clear hA hF hB hy
  go_wp2_with fail
  refine wp_region_held (S := (fun w' : World => Below (V2.heap.size) V2 w')) (by kernel_rfl) ?_
  change wpAnyH _ _ _ _ _ _ _ _ V2.drew
  have hy : Below V2.heap.size V2 V2.drew := (Below.refl _ _).drew
  have hE0 : Below (V2.heap.size) V2 V2.drew := (Below.refl _ _).drew
  clear hy
  generalize V2.drew = Y2x0 at hE0  ⊢
  have E0 := Lib.hid hE0
  clear hE0
  refine tkA 0 (?_) ?_ E0.out ?_
  rotate_left
  · (intro w1 hS; go_simp; try with_reducible rfl)
  simp only [Act.put, tS1, tS2, tS3]
  refine tkA 1 (?_) ?_ E0.out ?_
  rotate_left
  · (intro w1 hS; go_simp; try with_reducible rfl)
  simp only [Act.put, tS1, tS2, tS3]
  refine tkA 2 (?_) ?_ E0.out ?_
  rotate_left
  · (intro w1 hS; go_simp; try with_reducible rfl)
  simp only [Act.put, tS1, tS2, tS3]
  refine tkA 3 (?_) ?_ E0.out ?_
  rotate_left
  · (intro w1 hS; go_simp; try with_reducible rfl)
  simp only [Act.put, tS1, tS2, tS3]
  refine tkA 4 (?_) ?_ E0.out ?_
  rotate_left
  · (intro w1 hS; go_simp; try with_reducible rfl)
  simp only [Act.put, tS1, tS2, tS3]
  refine tkA 5 (?_) ?_ E0.out ?_
  rotate_left
  · (intro w1 hS; have hW := hS; have q := ((HX.out.below hW HX.out.lt).cell 4).trans H4.out; clear hW hS; go_simp; try with_reducible rfl)
  simp only [Act.put, tS1, tS2, tS3]
  refine tkA 6 (?_) ?_ E0.out ?_
  rotate_left
  · (intro w1 hS; go_simp; try with_reducible rfl)
  simp only [Act.put, tS1, tS2, tS3]
  refine tkA 7 (?_) ?_ E0.out ?_
  rotate_left
  · (intro w1 hS; go_simp; try with_reducible rfl)
  simp only [Act.put, tS1, tS2, tS3]
  refine tkA 8 (?_) ?_ E0.out ?_
  rotate_left
  · (intro w1 hS; have hW := hS; have q := ((HX.out.below hW HX.out.lt).cell 2).trans H2.out; clear hW hS; go_simp; try with_reducible rfl)
  simp only [Act.put, tS1, tS2, tS3]
  refine tkA 9 (?_) ?_ E0.out ?_
  rotate_left
  · (intro w1 hS; go_simp; try with_reducible rfl)
  simp only [Act.put, tS1, tS2, tS3]
  refine tkA 10 (?_) ?_ E0.out ?_
  rotate_left
  · (intro w1 hS; have hW := hS; have q := ((HX.out.below hW HX.out.lt).cell 3).trans H3.out; clear hW hS; go_simp; try with_reducible rfl)
  simp only [Act.put, tS1, tS2, tS3]
  refine tkA 11 (?_) ?_ E0.out ?_
  rotate_left
  · (intro w1 hS; have hW := hS; have q : (sg : Int) ≤ (en : Int) := (by omega); have q3 : (en : Int) ≤ (cap : Int) := (by omega); have q2 := HP2.out.symm; clear hW hS; go_simp; try with_reducible rfl)
  simp only [Act.put, tS1, tS2, tS3]
  refine tkA 12 (?_) ?_ E0.out ?_
  rotate_left
  · (intro w1 hS; go_simp; try with_reducible rfl)
  simp only [Act.put, tS1, tS2, tS3]
  refine tkA 13 (?_) ?_ E0.out ?_
  rotate_left
  · (intro w1 hS; go_simp; try with_reducible rfl)
  simp only [Act.put, tS1, tS2, tS3]
  refine tkA 14 (.agg S) ?_ E0.out ?_
  · (intro w1 hS; have hW := hS; exact exec_load 25 (.tmp 23) rfl _ rfl _ (by have h := run_part_load (P := Try.prog) 25 5 S.toList _ (HX.out.below hW HX.out.lt) PS.out Try.underlying25 rfl IS.out; rwa [Array.toArray_toList] at h))
  simp only [Act.put, tS1, tS2, tS3]
  refine tkA 15 (?_) ?_ E0.out ?_
  rotate_left
  · (intro w1 hS; go_simp; try with_reducible rfl)
  simp only [Act.put, tS1, tS2, tS3]
  refine tkA 16 (?_) ?_ E0.out ?_
  rotate_left
  · (intro w1 hS; go_simp; try with_reducible rfl)
  simp only [Act.put, tS1, tS2, tS3]
  refine tkA 17 (.agg D) ?_ E0.out ?_
  · (intro w1 hS; have hW := hS; exact exec_load 25 (.tmp 26) rfl _ rfl _ (by have h := run_part_load (P := Try.prog) 25 22 D.toList _ (HX.out.below hW HX.out.lt) PD.out Try.underlying25 rfl ID.out; rwa [Array.toArray_toList] at h))
  simp only [Act.put, tS1, tS2, tS3]
  refine tkO 18 (fun KK hK => ?_)
  go_simp
  refine (CG.out _ _ (RP.out.below (K.out.trans (E0.out.mono K.out.size)))).mono ?_
  rintro e Y2x1 ⟨rfl, hy⟩
  have E1 := Lib.hid (E0.out.trans (hy.mono E0.out.size))
  have C1 := Lib.hid E1.out
  clear hy E0
  refine hK.out _ _ C1.out (fun _ => ?_)
  clear hK KK
  refine wpAnyH_mono (S' := (fun w' : World => Below Y2x1.heap.size Y2x1 w')) (fun w1 h => C1.out.trans (h.mono C1.out.size)) _ _ _ _ ?_
  clear C1
  try simp only [Act.put, tS1, tS2, tS3]
  refine tkA 19 (?_) ?_ (Below.refl _ _) ?_
  rotate_left
  · (intro w1 hS; go_simp; try with_reducible rfl)
  simp only [Act.put, tS1, tS2, tS3]
  refine tkA 20 (?_) ?_ (Below.refl _ _) ?_
  rotate_left
  · (intro w1 hS; go_simp; try with_reducible rfl)
  simp only [Act.put, tS1, tS2, tS3]
  refine wpAnyH_done (by kernel_rfl) ?_ _
  have hy := E1.out
  replace K := Lib.hid (K.out.trans (hy.mono K.out.size))
  replace HX := Lib.hid (HX.out.below hy HX.out.lt)
  clear hy E1
  go_wp2
  go_ret
  exact ⟨rfl, K.out⟩
end Go.Proofs.Ythionipmohbnhaa
