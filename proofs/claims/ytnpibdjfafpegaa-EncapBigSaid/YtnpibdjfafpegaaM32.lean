/- Texts that the walks of this seat lean on, put together. -/
import Derived.Test.YtnpibdjfafpegaaTk
import Derived.Test.YtnpibdjfafpegaaM13
import Derived.Test.YtnpibdjfafpegaaM16
import Derived.Test.YtnpibdjfafpegaaM23
import Derived.Test.YtnpibdjfafpegaaM28
import Derived.Test.YtnpibdjfafpegaaM29
namespace Go.Proofs.Ytnpibdjfafpegaa
open Go.RowKit
set_option maxRecDepth 100000 in
set_option maxHeartbeats 1000000 in
theorem fread_net (v : Value) (zs : List Nat) (w : World) (hr : Rd w v (nus .u8 zs)) (hb : ∀ c ∈ zs, c < 256) (h : (net zs).2.2 ≠ 0) :
    Calls Try.prog 25 #[v] w fun e w' => e = .returned (.tuple #[.agg (vw zs), .int .i64 (rr zs : Nat)]) ∧ Below w.heap.size w w' := by
  obtain ⟨hrr, hv⟩ := rr_net zs h
  rw [hv, hrr]
  have CN := Lib.hid (fun W (h : Rd W v (nus .u8 zs)) => net_any v zs W h hb)
  have K := Lib.hid (Below.refl w.heap.size w)
  have HR := Lib.hid hr
  have Y0 : Hid (v0.size = Array.size (ZcV : Array Value)) := v0_size
  have Z0 := Lib.hid (i72.trans (congrArg some v0_size.symm))
  have A0 := Lib.hid v0_all
  obtain ⟨a, cap, rfl, -, -⟩ := rd_shape hr
  generalize (net zs).1 = at0 at *
  generalize (net zs).2.1 = kind at *
  generalize (net zs).2.2 = r at *
  generalize zs.length = n at *
  have g0 : ((r : Int) != 0) = true := by simp; omega
  clear hr hb h hv hrr
  go_enter Try.func25, Try.ntmps25
  have hal := (Below.refl w.heap.size w).alloc (Nat.le_refl _) (.cells ZcV 50)
  replace K := Lib.hid (K.out.trans (hal.mono K.out.size))
  have HV := Lib.hid (Blk.new w 50 ZcV)
  clear hal
  go_wp2_with fail
  have hzV1 : Hid ((w.alloc (.cells ZcV 50)).heap.size = w.heap.size + 1) := by show _ = _; simp only [World.size_alloc]
  generalize (w.alloc (.cells ZcV 50)) = V1 at *
  refine (CN.out _ (HR.out.below K.out)).mono ?_
  rintro e V2 ⟨rfl, rfl⟩
  go_wp2_with (((with_reducible refine wpList_blk_store (op := ⟨none, .store 50 (.tmp 2) (.tmp 14), _, _, _, _⟩) ?sg1 50 (.tmp 2) (.tmp 14) ?so1 (w.heap.size) v0 ?sx1 ?sy1 HV.out Y0.out Z0.out A0.out ?_); (case sg1 => rfl); (case so1 => rfl); (case sx1 => rfl); (case sy1 => rfl)))
  intro V3 hA hF hB
  replace K := Lib.hid (K.out.trans (hB _ (by omega)))
  replace HV := Lib.hid hA
  clear hA hF hB
  go_wp2
  have hrun := run_blk_load (P := Try.prog) 50 w.heap.size _ HV.out Try.underlying50 rfl Z0.out
  exact bodyPost_ret (results_cell_tmp 2 50 3 w.heap.size _ Try.results25 rfl hrun) rfl ⟨rfl, K.out⟩
set_option maxRecDepth 100000 in
set_option maxHeartbeats 2000000 in
theorem fread_ok (v : Value) (zs : List Nat) (w : World) (hr : Rd w v (nus .u8 zs)) (hb : ∀ c ∈ zs, c < 256) (h : (net zs).2.2 = 0) (hz : zs.length ≤ 65535) :
    Calls Try.prog 25 #[v] w fun e w' => e = .returned (.tuple #[.agg (vw zs), .int .i64 (rr zs : Nat)]) ∧ Below w.heap.size w w' := by
  obtain ⟨hat, hatl, hk⟩ := net_ok zs h
  have hk2 : (net zs).2.1 = if sixF zs then 34525 else 2048 := by
    unfold sixF
    rcases hk with hk | hk <;> rw [hk] <;> rfl
  have RP := Lib.hid (rr_pkt zs h)
  have RS := Lib.hid (sv_eq zs h)
  have CN := Lib.hid (fun W (h : Rd W v (nus .u8 zs)) => net_any v zs W h hb)
  rw [h, hk2] at CN
  have CP := Lib.hid (fun W (h : Rd W v (nus .u8 zs)) => packet_any v zs (net zs).1 (sixF zs) W h hb (by omega) hatl)
  have CS := Lib.hid (fun hok W (h : Rd W v (nus .u8 zs)) => segment_any v zs (net zs).1 (sixF zs) W h hb (by omega) hatl hok)
  have SS := Lib.hid (sv_size (sixF zs) (net zs).1 zs)
  have YPV : Hid ((pv (sixF zs) (net zs).1 (pkt zs)).size = Array.size (ZcV : Array Value)) := pv_size _ _ _
  have ZPV := Lib.hid (i72.trans (congrArg some (pv_size (sixF zs) (net zs).1 (pkt zs)).symm))
  have APV := Lib.hid (pv_all (sixF zs) (net zs).1 (pkt zs))
  have YVW : Hid ((vw zs).size = Array.size (ZcV : Array Value)) := vw_size zs
  have QVW := Lib.hid (i72.trans (congrArg some (vw_size zs).symm))
  have AVW := Lib.hid (vw_all zs)
  have Y0P := Lib.hid (v0_size.trans (pv_size (sixF zs) (net zs).1 (pkt zs)).symm)
  have YVP := Lib.hid ((vw_size zs).trans (pv_size (sixF zs) (net zs).1 (pkt zs)).symm)
  rw [show zs.drop (net zs).1 = pkt zs from rfl] at CP CS SS
  have K := Lib.hid (Below.refl w.heap.size w)
  have HR := Lib.hid hr
  have Y0 : Hid (v0.size = Array.size (ZcV : Array Value)) := v0_size
  have Z0 := Lib.hid (i72.trans (congrArg some v0_size.symm))
  have A0 := Lib.hid v0_all
  obtain ⟨a, cap, rfl, -, hlm⟩ := rd_shape hr
  clear hk hk2 hr hb hat hatl h
  generalize fs (fP (sixF zs) (pkt zs)) (sgT (sixF zs) (net zs).1 zs) = r2 at *
  generalize sv (sixF zs) (net zs).1 zs = VS at *
  generalize pv (sixF zs) (net zs).1 (pkt zs) = PV at *
  generalize fhr (sixF zs) (pkt zs) = r1 at *
  generalize (net zs).1 = at0 at *
  generalize (if sixF zs then 34525 else 2048 : Nat) = kind at *
  generalize vw zs = VW at *
  generalize rr zs = RRR at *
  generalize zs.length = n at *
  unfold maxLen at hlm
  have e65 : decide ((65535 : Int) < (n : Int)) = false := decide_eq_false (by omega)
  go_enter Try.func25, Try.ntmps25
  have hal := (Below.refl w.heap.size w).alloc (Nat.le_refl _) (.cells ZcV 50)
  replace K := Lib.hid (K.out.trans (hal.mono K.out.size))
  have HV := Lib.hid (Blk.new w 50 ZcV)
  clear hal
  go_wp2_with fail
  have hzV1 : Hid ((w.alloc (.cells ZcV 50)).heap.size = w.heap.size + 1) := by show _ = _; simp only [World.size_alloc]
  generalize (w.alloc (.cells ZcV 50)) = V1 at *
  refine (CN.out _ (HR.out.below K.out)).mono ?_
  rintro e V2 ⟨rfl, rfl⟩
  go_wp2_with fail
  refine (CP.out _ (HR.out.below K.out)).mono ?_
  rintro e V3 ⟨rfl, hy⟩
  replace K := Lib.hid (K.out.trans (hy.mono K.out.size))
  replace HV := Lib.hid (HV.out.below hy HV.out.lt)
  clear hy
  go_wp2_with (((with_reducible refine wpList_blk_store (op := ⟨none, .store 50 (.tmp 2) (.tmp 25), _, _, _, _⟩) ?sg2 50 (.tmp 2) (.tmp 25) ?so2 (w.heap.size) PV ?sx2 ?sy2 HV.out YPV.out ZPV.out APV.out ?_); (case sg2 => rfl); (case so2 => rfl); (case sx2 => rfl); (case sy2 => rfl)))
  intro V4 hA hF hB
  replace K := Lib.hid (K.out.trans (hB _ (by omega)))
  replace HV := Lib.hid hA
  clear hA hF hB
  by_cases hr1 : r1 = 0
  case neg =>
    obtain ⟨e1, e2⟩ := RP.out hr1
    subst e1 e2
    have g0 : ((RRR : Int) != 0) = true := by simp; omega
    clear hr1
    go_wp2_with (((with_reducible refine wpList_blk_store (op := ⟨none, .store 50 (.tmp 2) (.tmp 29), _, _, _, _⟩) ?sg3 50 (.tmp 2) (.tmp 29) ?so3 (w.heap.size) v0 ?sx3 ?sy3 HV.out Y0P.out Z0.out A0.out ?_); (case sg3 => rfl); (case so3 => rfl); (case sx3 => rfl); (case sy3 => rfl)))
    intro V5 hA hF hB
    replace K := Lib.hid (K.out.trans (hB _ (by omega)))
    replace HV := Lib.hid hA
    clear hA hF hB
    go_wp2
    have hrun := run_blk_load (P := Try.prog) 50 w.heap.size _ HV.out Try.underlying50 rfl Z0.out
    exact bodyPost_ret (results_cell_tmp 2 50 3 w.heap.size _ Try.results25 rfl hrun) rfl ⟨rfl, K.out⟩
  obtain ⟨e1, e2⟩ := RS.out hr1
  have CS2 := Lib.hid (CS.out hr1)
  clear CS SS RS RP
  subst hr1 e1 e2
  have L4 : (loadVar 50 ⟨w.heap.size, 0, none⟩).run Try.prog V4 = .ok (.agg PV) V4 := run_blk_load (P := Try.prog) 50 (w.heap.size) _ HV.out Try.underlying50 rfl ZPV.out
  replace L4 := Lib.hid L4
  go_wp2_with (((with_reducible refine wpList_load_want (op := ⟨some 32, .load 50 (.tmp 2), _, _, _, _⟩) ?wg4 50 (.tmp 2) ?wo4 ⟨w.heap.size, 0, none⟩ ?wx4 (.agg PV) L4.out ?_); (case wg4 => rfl); (case wo4 => rfl); (case wx4 => rfl)))
  clear L4
  refine (CS2.out _ (HR.out.below K.out)).mono ?_
  rintro e V5 ⟨rfl, hy⟩
  replace K := Lib.hid (K.out.trans (hy.mono K.out.size))
  replace HV := Lib.hid (HV.out.below hy HV.out.lt)
  clear hy
  go_wp2_with (((with_reducible refine wpList_blk_store (op := ⟨none, .store 50 (.tmp 2) (.tmp 34), _, _, _, _⟩) ?sg5 50 (.tmp 2) (.tmp 34) ?so5 (w.heap.size) VW ?sx5 ?sy5 HV.out YVP.out QVW.out AVW.out ?_); (case sg5 => rfl); (case so5 => rfl); (case sx5 => rfl); (case sy5 => rfl)))
  intro V6 hA hF hB
  replace K := Lib.hid (K.out.trans (hB _ (by omega)))
  replace HV := Lib.hid hA
  clear hA hF hB
  go_wp2
  have hrun := run_blk_load (P := Try.prog) 50 w.heap.size _ HV.out Try.underlying50 rfl QVW.out
  exact bodyPost_ret (results_cell_tmp 2 50 3 w.heap.size _ Try.results25 rfl hrun) rfl ⟨rfl, K.out⟩
theorem fread_any (v : Value) (zs : List Nat) (w : World) (hr : Rd w v (nus .u8 zs)) (hb : ∀ c ∈ zs, c < 256) (hz : zs.length ≤ 65535 ∨ (net zs).2.2 ≠ 0) :
    Calls Try.prog 25 #[v] w fun e w' => e = .returned (.tuple #[.agg (vw zs), .int .i64 (rr zs : Nat)]) ∧ Below w.heap.size w w' := by
  by_cases h : (net zs).2.2 = 0
  · exact fread_ok v zs w hr hb h (hz.resolve_right (fun x => x h))
  · exact fread_net v zs w hr hb h
end Go.Proofs.Ytnpibdjfafpegaa
namespace Go.Proofs.Ytnpibdjfafpegaa
open Go.RowKit
def inn (zs : List Nat) (v : Bool) (O D : List Nat) : List Nat := (zs.take (nN zs - 2) ++ bg 2 (kN v)) ++ (headB v O D (prN (sixF zs)) (nE zs - nN zs) ++ (pkt zs).take (nE zs - nN zs))
def inS (zs : List Nat) (v : Bool) : Nat := nN zs + hH v + (nE zs - nN zs)
set_option maxRecDepth 100000 in
set_option maxHeartbeats 8000000 in
theorem in_reason (x : Value) (zs A4 A6 D : List Nat) (v4 v6 v : Bool) (w : World) (h : Rd w x (nus .u8 zs)) (hb : ∀ c ∈ zs, c < 256) (hz : zs.length ≤ 65535) (hA4 : A4.length = 16) (hA6 : A6.length = 16) (hD : D.length = 16) (hr : rr zs ≠ 0) :
    Calls Try.prog 11 #[x, adr v4 A4, adr v6 A6, adr v D] w fun e w' => e = .returned (.tuple #[.slice none 0 0, .int .i64 (rr zs : Nat)]) ∧ Below w.heap.size w w' := by
  have K := Lib.hid (Below.refl w.heap.size w)
  have HR := Lib.hid h
  have CF := Lib.hid (fun W (h : Rd W x (nus .u8 zs)) => fread_any x zs W h hb (.inl hz))
  obtain ⟨a, cap, rfl, hlc, hlm⟩ := rd_shape h
  have YV : Hid ((vw zs).size = Array.size (ZcV : Array Value)) := vw_size zs
  have QV := Lib.hid (i72.trans (congrArg some (vw_size zs).symm))
  have AV := Lib.hid (vw_all zs)
  have s4 : (cellsA v4 A4).size = 17 := by rw [cellsA_size, hA4]
  have s6 : (cellsA v6 A6).size = 17 := by rw [cellsA_size, hA6]
  have sD : (cellsA v D).size = 17 := by rw [cellsA_size, hD]
  have Y46 : Hid ((cellsA v6 A6).size = (cellsA v4 A4).size) := s6.trans s4.symm
  have Q4 := Lib.hid (i24.trans (congrArg some s4.symm))
  have Q6 := Lib.hid (i24.trans (congrArg some s6.symm))
  have QD := Lib.hid (i24.trans (congrArg some sD.symm))
  have E6 := Lib.hid (cellsA_all v6 A6)
  have G4 := Lib.hid (cellsA_head v4 A4)
  have G6 := Lib.hid (cellsA_head v6 A6)
  have GD := Lib.hid (cellsA_head v D)
  have g1 : ((rr zs : Int) != 0) = true := by rw [bne_iff_ne]; omega
  unfold adr
  generalize cellsA v4 A4 = C4 at *
  generalize cellsA v6 A6 = C6 at *
  generalize cellsA v D = CD at *
  generalize vw zs = VW at *
  generalize rr zs = r at *
  generalize zs.length = len at *
  clear h hb hz hA4 hA6 hD hr s4 s6 sD hlc hlm
  go_enter Try.func11, Try.ntmps11
  have hal := (Below.refl w.heap.size w).alloc (Nat.le_refl _) (.cells C4 27)
  replace K := Lib.hid (K.out.trans (hal.mono K.out.size))
  have H4 := Lib.hid (Blk.new w 27 C4)
  clear hal
  have hal := (Below.refl (w.alloc (.cells C4 27)).heap.size (w.alloc (.cells C4 27))).alloc (Nat.le_refl _) (.cells C6 27)
  replace K := Lib.hid (K.out.trans (hal.mono K.out.size))
  replace H4 := Lib.hid (H4.out.below hal H4.out.lt)
  have H6q := Blk.new (w.alloc (.cells C4 27)) 27 C6
  simp only [World.size_alloc] at H6q
  have H6 := Lib.hid H6q
  clear H6q
  clear hal
  have hal := (Below.refl ((w.alloc (.cells C4 27)).alloc (.cells C6 27)).heap.size ((w.alloc (.cells C4 27)).alloc (.cells C6 27))).alloc (Nat.le_refl _) (.cells CD 27)
  replace K := Lib.hid (K.out.trans (hal.mono K.out.size))
  replace H4 := Lib.hid (H4.out.below hal H4.out.lt)
  replace H6 := Lib.hid (H6.out.below hal H6.out.lt)
  have HDq := Blk.new ((w.alloc (.cells C4 27)).alloc (.cells C6 27)) 27 CD
  simp only [World.size_alloc] at HDq
  have HD := Lib.hid HDq
  clear HDq
  clear hal
  go_wp2_with fail
  have hzV1 : Hid ((((w.alloc (.cells C4 27)).alloc (.cells C6 27)).alloc (.cells CD 27)).heap.size = w.heap.size + 1 + 1 + 1) := by show _ = _; simp only [World.size_alloc]
  generalize (((w.alloc (.cells C4 27)).alloc (.cells C6 27)).alloc (.cells CD 27)) = V1 at *
  refine (CF.out V1 (HR.out.below K.out)).mono ?_
  rintro e V2 ⟨rfl, hy⟩
  replace K := Lib.hid (K.out.trans (hy.mono K.out.size))
  replace H4 := Lib.hid (H4.out.below hy H4.out.lt)
  replace H6 := Lib.hid (H6.out.below hy H6.out.lt)
  replace HD := Lib.hid (HD.out.below hy HD.out.lt)
  clear hy
  go_wp2_with (((with_reducible refine wpList_blk_store (op := ⟨none, .store 50 (.tmp 10) (.tmp 18), _, _, _, _⟩) ?sg1 50 (.tmp 10) (.tmp 18) ?so1 (V2.heap.size) VW ?sx1 ?sy1 (Blk.new V2 50 ZcV) YV.out QV.out AV.out ?_); (case sg1 => rfl); (case so1 => rfl); (case sx1 => rfl); (case sy1 => rfl)))
  have qH4HV : w.heap.size < V2.heap.size := H4.out.lt
  have qH6HV : w.heap.size + 1 < V2.heap.size := H6.out.lt
  have qHDHV : w.heap.size + 2 < V2.heap.size := HD.out.lt
  intro V3 hA hF hB
  have hy := ((Below.refl V2.heap.size V2).alloc (Nat.le_refl _) (.cells ZcV 50)).trans (hB _ (Nat.le_refl _))
  replace K := Lib.hid (K.out.trans (hy.mono K.out.size))
  replace H4 := Lib.hid (H4.out.below hy H4.out.lt)
  replace H6 := Lib.hid (H6.out.below hy H6.out.lt)
  replace HD := Lib.hid (HD.out.below hy HD.out.lt)
  have HV := Lib.hid hA
  clear hA hF hB hy
  go_wp2
  go_ret2
  exact ⟨rfl, K.out⟩
set_option maxRecDepth 100000 in
set_option maxHeartbeats 8000000 in
theorem in_kind (x : Value) (zs A4 A6 D : List Nat) (v4 v6 v : Bool) (w : World) (h : Rd w x (nus .u8 zs)) (hb : ∀ c ∈ zs, c < 256) (hz : zs.length ≤ 65535) (hA4 : A4.length = 16) (hA6 : A6.length = 16) (hD : D.length = 16) (hr : rr zs = 0) (hv : v = false) (h4 : v4 = true) :
    Calls Try.prog 11 #[x, adr v4 A4, adr v6 A6, adr v D] w fun e w' => e = .returned (.tuple #[.slice none 0 0, .int .i64 8]) ∧ Below w.heap.size w w' := by
  have K := Lib.hid (Below.refl w.heap.size w)
  have HR := Lib.hid h
  have CF := Lib.hid (fun W (h : Rd W x (nus .u8 zs)) => fread_any x zs W h hb (.inl hz))
  obtain ⟨a, cap, rfl, hlc, hlm⟩ := rd_shape h
  have YV : Hid ((vw zs).size = Array.size (ZcV : Array Value)) := vw_size zs
  have QV := Lib.hid (i72.trans (congrArg some (vw_size zs).symm))
  have AV := Lib.hid (vw_all zs)
  have s4 : (cellsA v4 A4).size = 17 := by rw [cellsA_size, hA4]
  have s6 : (cellsA v6 A6).size = 17 := by rw [cellsA_size, hA6]
  have sD : (cellsA v D).size = 17 := by rw [cellsA_size, hD]
  have Y46 : Hid ((cellsA v6 A6).size = (cellsA v4 A4).size) := s6.trans s4.symm
  have Q4 := Lib.hid (i24.trans (congrArg some s4.symm))
  have Q6 := Lib.hid (i24.trans (congrArg some s6.symm))
  have QD := Lib.hid (i24.trans (congrArg some sD.symm))
  have E6 := Lib.hid (cellsA_all v6 A6)
  have G4 := Lib.hid (cellsA_head v4 A4)
  have G6 := Lib.hid (cellsA_head v6 A6)
  have GD := Lib.hid (cellsA_head v D)
  subst hv h4
  rw [hr] at CF
  unfold adr
  generalize cellsA true A4 = C4 at *
  generalize cellsA v6 A6 = C6 at *
  generalize cellsA false D = CD at *
  generalize vw zs = VW at *
  generalize zs.length = len at *
  clear h hb hz hA4 hA6 hD hr s4 s6 sD hlc hlm
  go_enter Try.func11, Try.ntmps11
  have hal := (Below.refl w.heap.size w).alloc (Nat.le_refl _) (.cells C4 27)
  replace K := Lib.hid (K.out.trans (hal.mono K.out.size))
  have H4 := Lib.hid (Blk.new w 27 C4)
  clear hal
  have hal := (Below.refl (w.alloc (.cells C4 27)).heap.size (w.alloc (.cells C4 27))).alloc (Nat.le_refl _) (.cells C6 27)
  replace K := Lib.hid (K.out.trans (hal.mono K.out.size))
  replace H4 := Lib.hid (H4.out.below hal H4.out.lt)
  have H6q := Blk.new (w.alloc (.cells C4 27)) 27 C6
  simp only [World.size_alloc] at H6q
  have H6 := Lib.hid H6q
  clear H6q
  clear hal
  have hal := (Below.refl ((w.alloc (.cells C4 27)).alloc (.cells C6 27)).heap.size ((w.alloc (.cells C4 27)).alloc (.cells C6 27))).alloc (Nat.le_refl _) (.cells CD 27)
  replace K := Lib.hid (K.out.trans (hal.mono K.out.size))
  replace H4 := Lib.hid (H4.out.below hal H4.out.lt)
  replace H6 := Lib.hid (H6.out.below hal H6.out.lt)
  have HDq := Blk.new ((w.alloc (.cells C4 27)).alloc (.cells C6 27)) 27 CD
  simp only [World.size_alloc] at HDq
  have HD := Lib.hid HDq
  clear HDq
  clear hal
  go_wp2_with fail
  have hzV1 : Hid ((((w.alloc (.cells C4 27)).alloc (.cells C6 27)).alloc (.cells CD 27)).heap.size = w.heap.size + 1 + 1 + 1) := by show _ = _; simp only [World.size_alloc]
  generalize (((w.alloc (.cells C4 27)).alloc (.cells C6 27)).alloc (.cells CD 27)) = V1 at *
  refine (CF.out V1 (HR.out.below K.out)).mono ?_
  rintro e V2 ⟨rfl, hy⟩
  replace K := Lib.hid (K.out.trans (hy.mono K.out.size))
  replace H4 := Lib.hid (H4.out.below hy H4.out.lt)
  replace H6 := Lib.hid (H6.out.below hy H6.out.lt)
  replace HD := Lib.hid (HD.out.below hy HD.out.lt)
  clear hy
  go_wp2_with (((with_reducible refine wpList_blk_store (op := ⟨none, .store 50 (.tmp 10) (.tmp 18), _, _, _, _⟩) ?sg2 50 (.tmp 10) (.tmp 18) ?so2 (V2.heap.size) VW ?sx2 ?sy2 (Blk.new V2 50 ZcV) YV.out QV.out AV.out ?_); (case sg2 => rfl); (case so2 => rfl); (case sx2 => rfl); (case sy2 => rfl)))
  have qH4HV : w.heap.size < V2.heap.size := H4.out.lt
  have qH6HV : w.heap.size + 1 < V2.heap.size := H6.out.lt
  have qHDHV : w.heap.size + 2 < V2.heap.size := HD.out.lt
  intro V3 hA hF hB
  have hy := ((Below.refl V2.heap.size V2).alloc (Nat.le_refl _) (.cells ZcV 50)).trans (hB _ (Nat.le_refl _))
  replace K := Lib.hid (K.out.trans (hy.mono K.out.size))
  replace H4 := Lib.hid (H4.out.below hy H4.out.lt)
  replace H6 := Lib.hid (H6.out.below hy H6.out.lt)
  replace HD := Lib.hid (HD.out.below hy HD.out.lt)
  have HV := Lib.hid hA
  clear hA hF hB hy
  have L3 := (HD.out.cell 0).trans GD.out
  have L4 := (H4.out.cell 0).trans G4.out
  have L5 := (HD.out.cell 0).trans GD.out
  go_wp2
  go_ret2
  exact ⟨rfl, K.out⟩
set_option maxRecDepth 100000 in
set_option maxHeartbeats 8000000 in
theorem in_big6 (x : Value) (zs A4 A6 D : List Nat) (v4 v6 : Bool) (w : World) (h : Rd w x (nus .u8 zs)) (hb : ∀ c ∈ zs, c < 256) (hz : zs.length ≤ 65535) (hA4 : A4.length = 16) (hA6 : A6.length = 16) (hD : D.length = 16) (hr : rr zs = 0) (h4 : v4 = false) (h6 : v6 = true) (hb6 : ∀ c ∈ A6, c < 256) (hbD : ∀ c ∈ D, c < 256) (hvD : vldA true D = true) (hs : 65535 < inS zs true) :
    Calls Try.prog 11 #[x, adr v4 A4, adr v6 A6, adr true D] w fun e w' => e = .returned (.tuple #[.slice none 0 0, .int .i64 9]) ∧ Below w.heap.size w w' := by
  have K := Lib.hid (Below.refl w.heap.size w)
  have HR := Lib.hid h
  have CF := Lib.hid (fun W (h : Rd W x (nus .u8 zs)) => fread_any x zs W h hb (.inl hz))
  obtain ⟨a, cap, rfl, hlc, hlm⟩ := rd_shape h
  have YV : Hid ((vw zs).size = Array.size (ZcV : Array Value)) := vw_size zs
  have QV := Lib.hid (i72.trans (congrArg some (vw_size zs).symm))
  have AV := Lib.hid (vw_all zs)
  have s4 : (cellsA v4 A4).size = 17 := by rw [cellsA_size, hA4]
  have s6 : (cellsA v6 A6).size = 17 := by rw [cellsA_size, hA6]
  have sD : (cellsA true D).size = 17 := by rw [cellsA_size, hD]
  have Y46 : Hid ((cellsA v6 A6).size = (cellsA v4 A4).size) := s6.trans s4.symm
  have Q4 := Lib.hid (i24.trans (congrArg some s4.symm))
  have Q6 := Lib.hid (i24.trans (congrArg some s6.symm))
  have QD := Lib.hid (i24.trans (congrArg some sD.symm))
  have E6 := Lib.hid (cellsA_all v6 A6)
  have G4 := Lib.hid (cellsA_head v4 A4)
  have G6 := Lib.hid (cellsA_head v6 A6)
  have GD := Lib.hid (cellsA_head true D)
  subst h4 h6
  have hF := frame9 zs hr
  have hV := view9 zs hr
  have eE : nE zs = nN zs + fL (sixF zs) (pkt zs) := rfl
  have hn0 := hF.n0
  have hnl := hF.nl
  have hel := hF.eL
  have q1 := hF.hd0.low
  have q2 := hF.hd0.mid
  obtain ⟨L, hL⟩ : ∃ q, q = fL (sixF zs) (pkt zs) := ⟨_, rfl⟩
  obtain ⟨n, hn⟩ : ∃ q, q = nN zs := ⟨_, rfl⟩
  have en : (net zs).1 = n := hn.symm
  rw [← hL, ← hn] at eE
  rw [← hL] at q2
  rw [en] at hn0 hnl
  rw [eE] at hel
  have G0 := Lib.hid hV.c0
  have hc1 := hV.c1
  have hc3 := hV.c3
  rw [← hn] at hc1
  rw [eE] at hc3
  have G1 := Lib.hid hc1
  have G3 := Lib.hid hc3
  rw [hr] at CF
  have C27 := Lib.hid (fun W => valid_any true A6 hA6 hb6 W)
  have C28 := Lib.hid (fun W => valid_any true D hD hbD W)
  rw [show vldA true A6 = true from rfl] at C27
  rw [hvD] at C28
  have hpr : prN (sixF zs) < 256 := by unfold prN; split <;> decide
  have CH := Lib.hid (fun W => header_any true A6 D (prN (sixF zs)) L W hA6 hD hb6 hbD hpr)
  have CKD := Lib.hid (fun W => kindOf_any true W)
  have CPR := Lib.hid (fun W => protoOf_any (sixF zs) W)
  obtain ⟨nn, hnn⟩ : ∃ q, n = q + 2 := ⟨n - 2, by omega⟩
  obtain ⟨b, off, rfl, -⟩ := h.cells (by omega)
  have CW := Lib.hid (fun W h => with_yes (.slice (some ⟨b, off, none⟩) zs.length cap) zs (kN true) nn W h hb (by decide) hF.net0 (by omega) (by omega) (by omega))
  have hwl : (zs.take nn ++ bg 2 (kN true)).length = nn + 2 := by rw [List.length_append, List.length_take, bg_length]; omega
  rw [← hnn] at CW hwl
  have R2 := Lib.hid (show Rd w _ (nus .u8 ((zs.drop n).take L)) from Rd.sub h n L (by omega))
  have hql : ((zs.drop n).take L).length = L := by rw [List.length_take, List.length_drop]; omega
  have hcn : ¬ cap = n := by omega
  have hss : inS zs true = n + hH true + (n + L - n) := by unfold inS; rw [← hn, eE]
  rw [Nat.add_sub_cancel_left] at hss
  have hH40 : hH true ≤ 40 := by decide
  obtain ⟨ok, hok⟩ : ∃ o, o = decide (L ≤ capB true) := ⟨_, rfl⟩
  have hM2 : ok = true → (hdM true A6 D (prN (sixF zs)) L).length = hH true := fun q => by
    rw [hok, decide_eq_true_iff] at q
    rw [show hdM true A6 D (prN (sixF zs)) L = headB true A6 D (prN (sixF zs)) L from if_pos q]
    exact headB_len true _ D _ _ hA6 hD
  rw [← hok] at CH
  have HM2 := Lib.hid hM2
  clear hM2 hok
  generalize hdM true A6 D (prN (sixF zs)) L = MM at *
  rw [hss] at hs
  unfold adr at CH C27 C28 ⊢
  generalize (zs.take nn ++ bg 2 (kN true)) = E at *
  generalize (zs.drop n).take L = Q at *
  generalize prN (sixF zs) = pr at *
  generalize kN true = kk at *
  generalize sixF zs = six at *
  have HWL := Lib.hid hwl
  have HQL := Lib.hid hql
  generalize cellsA false A4 = C4 at *
  generalize cellsA true A6 = C6 at *
  generalize cellsA true D = CD at *
  generalize vw zs = VW at *
  have hlen : zs.length ≤ 65535 := hz
  generalize zs.length = len at *
  have hlow : 20 ≤ L := by omega
  clear h hb hz hA4 hA6 hD hr hb6 hbD hvD hF hV eE q1 q2 hL hn en hc1 hc3 hwl hql s4 s6 sD hpr hss hnn
  unfold maxLen at hlm
  go_enter Try.func11, Try.ntmps11
  have hal := (Below.refl w.heap.size w).alloc (Nat.le_refl _) (.cells C4 27)
  replace K := Lib.hid (K.out.trans (hal.mono K.out.size))
  have H4 := Lib.hid (Blk.new w 27 C4)
  clear hal
  have hal := (Below.refl (w.alloc (.cells C4 27)).heap.size (w.alloc (.cells C4 27))).alloc (Nat.le_refl _) (.cells C6 27)
  replace K := Lib.hid (K.out.trans (hal.mono K.out.size))
  replace H4 := Lib.hid (H4.out.below hal H4.out.lt)
  have H6q := Blk.new (w.alloc (.cells C4 27)) 27 C6
  simp only [World.size_alloc] at H6q
  have H6 := Lib.hid H6q
  clear H6q
  clear hal
  have hal := (Below.refl ((w.alloc (.cells C4 27)).alloc (.cells C6 27)).heap.size ((w.alloc (.cells C4 27)).alloc (.cells C6 27))).alloc (Nat.le_refl _) (.cells CD 27)
  replace K := Lib.hid (K.out.trans (hal.mono K.out.size))
  replace H4 := Lib.hid (H4.out.below hal H4.out.lt)
  replace H6 := Lib.hid (H6.out.below hal H6.out.lt)
  have HDq := Blk.new ((w.alloc (.cells C4 27)).alloc (.cells C6 27)) 27 CD
  simp only [World.size_alloc] at HDq
  have HD := Lib.hid HDq
  clear HDq
  clear hal
  go_wp2_with fail
  have hzV1 : Hid ((((w.alloc (.cells C4 27)).alloc (.cells C6 27)).alloc (.cells CD 27)).heap.size = w.heap.size + 1 + 1 + 1) := by show _ = _; simp only [World.size_alloc]
  generalize (((w.alloc (.cells C4 27)).alloc (.cells C6 27)).alloc (.cells CD 27)) = V1 at *
  refine (CF.out V1 (HR.out.below K.out)).mono ?_
  rintro e V2 ⟨rfl, hy⟩
  replace K := Lib.hid (K.out.trans (hy.mono K.out.size))
  replace H4 := Lib.hid (H4.out.below hy H4.out.lt)
  replace H6 := Lib.hid (H6.out.below hy H6.out.lt)
  replace HD := Lib.hid (HD.out.below hy HD.out.lt)
  clear hy
  go_wp2_with (((with_reducible refine wpList_blk_store (op := ⟨none, .store 50 (.tmp 10) (.tmp 18), _, _, _, _⟩) ?sg6 50 (.tmp 10) (.tmp 18) ?so6 (V2.heap.size) VW ?sx6 ?sy6 (Blk.new V2 50 ZcV) YV.out QV.out AV.out ?_); (case sg6 => rfl); (case so6 => rfl); (case sx6 => rfl); (case sy6 => rfl)))
  have qH4HV : w.heap.size < V2.heap.size := H4.out.lt
  have qH6HV : w.heap.size + 1 < V2.heap.size := H6.out.lt
  have qHDHV : w.heap.size + 2 < V2.heap.size := HD.out.lt
  intro V3 hA hF hB
  have hy := ((Below.refl V2.heap.size V2).alloc (Nat.le_refl _) (.cells ZcV 50)).trans (hB _ (Nat.le_refl _))
  replace K := Lib.hid (K.out.trans (hy.mono K.out.size))
  replace H4 := Lib.hid (H4.out.below hy H4.out.lt)
  replace H6 := Lib.hid (H6.out.below hy H6.out.lt)
  replace HD := Lib.hid (HD.out.below hy HD.out.lt)
  have HV := Lib.hid hA
  clear hA hF hB hy
  have L7 := (HD.out.cell 0).trans GD.out
  have L8 : (loadVar 27 ⟨w.heap.size + 1, 0, none⟩).run Try.prog V3 = .ok (.agg C6) V3 := run_blk_load (P := Try.prog) 27 (w.heap.size + 1) _ H6.out Try.underlying27 rfl Q6.out
  replace L8 := Lib.hid L8
  go_wp2_with (first | ((with_reducible refine wpList_load_want (op := ⟨some 25, .load 27 (.tmp 6), _, _, _, _⟩) ?wg8 27 (.tmp 6) ?wo8 ⟨w.heap.size + 1, 0, none⟩ ?wx8 (.agg C6) L8.out ?_); (case wg8 => rfl); (case wo8 => rfl); (case wx8 => rfl)) | ((with_reducible refine wpList_blk_store (op := ⟨none, .store 27 (.tmp 5) (.tmp 25), _, _, _, _⟩) ?sg9 27 (.tmp 5) (.tmp 25) ?so9 (w.heap.size) C6 ?sx9 ?sy9 H4.out Y46.out Q6.out E6.out ?_); (case sg9 => rfl); (case so9 => rfl); (case sx9 => rfl); (case sy9 => rfl)))
  clear L7 L8
  intro V4 hA hF hB
  replace K := Lib.hid (K.out.trans (hB _ (by omega)))
  replace H6 := Lib.hid (show Blk _ _ _ _ from (hF _ (by omega)).trans H6.out)
  replace HD := Lib.hid (show Blk _ _ _ _ from (hF _ (by omega)).trans HD.out)
  replace HV := Lib.hid (show Blk _ _ _ _ from (hF _ (by omega)).trans HV.out)
  replace H4 := Lib.hid hA
  clear hA hF hB
  have L10 := (H4.out.cell 0).trans G6.out
  have L11 := (HD.out.cell 0).trans GD.out
  have L12 : (loadVar 27 ⟨w.heap.size, 0, none⟩).run Try.prog V4 = .ok (.agg C6) V4 := run_blk_load (P := Try.prog) 27 (w.heap.size) _ H4.out Try.underlying27 rfl Q6.out
  replace L12 := Lib.hid L12
  go_wp2_with (((with_reducible refine wpList_load_want (op := ⟨some 32, .load 27 (.tmp 5), _, _, _, _⟩) ?wg12 27 (.tmp 5) ?wo12 ⟨w.heap.size, 0, none⟩ ?wx12 (.agg C6) L12.out ?_); (case wg12 => rfl); (case wo12 => rfl); (case wx12 => rfl)))
  clear L10 L11 L12
  refine (C27.out V4).mono ?_
  rintro e V5 ⟨rfl, hy⟩
  replace K := Lib.hid (K.out.trans (hy.mono K.out.size))
  replace H4 := Lib.hid (H4.out.below hy H4.out.lt)
  replace H6 := Lib.hid (H6.out.below hy H6.out.lt)
  replace HD := Lib.hid (HD.out.below hy HD.out.lt)
  replace HV := Lib.hid (HV.out.below hy HV.out.lt)
  clear hy
  have L13 : (loadVar 27 ⟨w.heap.size + 2, 0, none⟩).run Try.prog V5 = .ok (.agg CD) V5 := run_blk_load (P := Try.prog) 27 (w.heap.size + 2) _ HD.out Try.underlying27 rfl QD.out
  replace L13 := Lib.hid L13
  go_wp2_with (((with_reducible refine wpList_load_want (op := ⟨some 37, .load 27 (.tmp 7), _, _, _, _⟩) ?wg13 27 (.tmp 7) ?wo13 ⟨w.heap.size + 2, 0, none⟩ ?wx13 (.agg CD) L13.out ?_); (case wg13 => rfl); (case wo13 => rfl); (case wx13 => rfl)))
  clear L13
  refine (C28.out V5).mono ?_
  rintro e V6 ⟨rfl, hy⟩
  replace K := Lib.hid (K.out.trans (hy.mono K.out.size))
  replace H4 := Lib.hid (H4.out.below hy H4.out.lt)
  replace H6 := Lib.hid (H6.out.below hy H6.out.lt)
  replace HD := Lib.hid (HD.out.below hy HD.out.lt)
  replace HV := Lib.hid (HV.out.below hy HV.out.lt)
  clear hy
  have q : (n : Int) ≤ ((n + L : Nat) : Int) := (by omega)
  have q2 : ((n + L : Nat) : Int) ≤ (cap : Int) := (by omega)
  have L14 := (HV.out.cell 1).trans G1.out
  have L15 := (HV.out.cell 3).trans G3.out
  have L16 := (HD.out.cell 0).trans GD.out
  go_wp2_with fail
  clear L14 L15 L16
  refine (CKD.out V6).mono ?_
  rintro e V7 ⟨rfl, rfl⟩
  go_wp2_with fail
  refine (CW.out V6 (HR.out.below K.out)).mono ?_
  rintro e V8 ⟨x1, rfl, ox1, hy⟩
  replace K := Lib.hid (K.out.trans (hy.mono K.out.size))
  replace H4 := Lib.hid (H4.out.below hy H4.out.lt)
  replace H6 := Lib.hid (H6.out.below hy H6.out.lt)
  replace HD := Lib.hid (HD.out.below hy HD.out.lt)
  replace HV := Lib.hid (HV.out.below hy HV.out.lt)
  obtain ⟨g1, k1, rfl, -, -, -, -⟩ := own_at ox1 (by omega)
  have RX1 := Lib.hid (Rd.own ox1)
  clear ox1
  clear hy
  clear q q2
  go_wp2_with fail
  refine wp_region_held (S := (fun w' : World => Below (V8.heap.size) V8 w')) (by kernel_rfl) ?_
  change wpAnyH _ _ _ _ _ _ _ _ V8.drew
  have hy : Below V8.heap.size V8 V8.drew := (Below.refl _ _).drew
  have hE0 : Below (V8.heap.size) V8 V8.drew := (Below.refl _ _).drew
  clear hy
  generalize V8.drew = Y10x0 at hE0  ⊢
  have E0 := Lib.hid hE0
  clear hE0
  refine tkA 0 (.agg C6) ?_ E0.out ?_
  · (intro w1 hS; have hW := hS; exact exec_load 27 (.tmp 5) rfl _ rfl _ (run_blk_load (P := Try.prog) 27 (w.heap.size) _ (H4.out.below hW H4.out.lt) Try.underlying27 rfl Q6.out))
  simp only [Act.put, tS1, tS2, tS3]
  refine tkA 1 (.agg CD) ?_ E0.out ?_
  · (intro w1 hS; have hW := hS; exact exec_load 27 (.tmp 7) rfl _ rfl _ (run_blk_load (P := Try.prog) 27 (w.heap.size + 2) _ (HD.out.below hW HD.out.lt) Try.underlying27 rfl QD.out))
  simp only [Act.put, tS1, tS2, tS3]
  refine tkA 2 (?_) ?_ E0.out ?_
  rotate_left
  · (intro w1 hS; go_simp; try with_reducible rfl)
  simp only [Act.put, tS1, tS2, tS3]
  refine tkA 3 (?_) ?_ E0.out ?_
  rotate_left
  · (intro w1 hS; have hW := hS; have q := ((HV.out.below hW HV.out.lt).cell 0).trans G0.out; clear hW hS; go_simp; try with_reducible rfl)
  simp only [Act.put, tS1, tS2, tS3]
  refine tkA 5 (?_) ?_ E0.out ?_
  rotate_left
  · (intro w1 hS; go_simp; try with_reducible rfl)
  simp only [Act.put, tS1, tS2, tS3]
  refine tkA 6 (?_) ?_ E0.out ?_
  rotate_left
  · (intro w1 hS; go_simp; try with_reducible rfl)
  simp only [Act.put, tS1, tS2, tS3]
  refine tkO 4 (fun KK hK => ?_)
  go_simp
  refine (same_below (CPR.out Y10x0)).mono ?_
  rintro e Y10x1 ⟨rfl, hy⟩
  have E1 := Lib.hid (E0.out.trans (hy.mono E0.out.size))
  have C1 := Lib.hid E1.out
  clear hy E0
  refine hK.out _ _ C1.out (fun _ => ?_)
  clear hK KK
  refine wpAnyH_mono (S' := (fun w' : World => Below Y10x1.heap.size Y10x1 w')) (fun w1 h => C1.out.trans (h.mono C1.out.size)) _ _ _ _ ?_
  clear C1
  try simp only [Act.put, tS1, tS2, tS3]
  refine tkO 7 (fun KK hK => ?_)
  go_simp
  refine (CH.out Y10x1).mono ?_
  rintro e Y10x2 ⟨x2, rfl, rx2, hy⟩
  have E2 := Lib.hid (E1.out.trans (hy.mono E1.out.size))
  have C2 := Lib.hid hy
  have RX2 := Lib.hid (rx2)
  clear rx2
  clear hy E1
  refine hK.out _ _ C2.out (fun _ => ?_)
  clear hK KK
  refine wpAnyH_mono (S' := (fun w' : World => Below Y10x2.heap.size Y10x2 w')) (fun w1 h => C2.out.trans (h.mono C2.out.size)) _ _ _ _ ?_
  clear C2
  try simp only [Act.put, tS1, tS2, tS3]
  refine tkA 8 (?_) ?_ (Below.refl _ _) ?_
  rotate_left
  · (intro w1 hS; go_simp; try with_reducible rfl)
  simp only [Act.put, tS1, tS2, tS3]
  refine tkA 9 (?_) ?_ (Below.refl _ _) ?_
  rotate_left
  · (intro w1 hS; go_simp; try with_reducible rfl)
  simp only [Act.put, tS1, tS2, tS3]
  refine tkA 11 (?_) ?_ (Below.refl _ _) ?_
  rotate_left
  · (intro w1 hS; go_simp; try with_reducible rfl)
  simp only [Act.put, tS1, tS2, tS3]
  refine tkA 10 (?_) ?_ (Below.refl _ _) ?_
  rotate_left
  · (intro w1 hS; go_simp; try with_reducible rfl)
  simp only [Act.put, tS1, tS2, tS3]
  refine tkA 12 (?_) ?_ (Below.refl _ _) ?_
  rotate_left
  · (intro w1 hS; go_simp; try with_reducible rfl)
  simp only [Act.put, tS1, tS2, tS3]
  refine wpAnyH_done (by kernel_rfl) ?_ _
  have hy := E2.out
  replace K := Lib.hid (K.out.trans (hy.mono K.out.size))
  replace H4 := Lib.hid (H4.out.below hy H4.out.lt)
  replace H6 := Lib.hid (H6.out.below hy H6.out.lt)
  replace HD := Lib.hid (HD.out.below hy HD.out.lt)
  replace HV := Lib.hid (HV.out.below hy HV.out.lt)
  replace RX1 := Lib.hid (RX1.out.below hy)
  clear hy E2
  obtain ⟨a3, k3, ey, -, -⟩ := rd_shape RX2.out
  subst ey
  generalize MM.length = ml at *
  cases ok with
  | true =>
    have hm2 := HM2.out rfl
    have hml : 65535 < n + ml + L := by omega
    have hml2 : ml ≤ 40 := by omega
    clear hm2
    go_wp2
    go_ret2
    exact ⟨rfl, K.out⟩
  | false =>
    go_wp2
    go_ret2
    exact ⟨rfl, K.out⟩
set_option maxRecDepth 100000 in
set_option maxHeartbeats 8000000 in
theorem in_big4 (x : Value) (zs A4 A6 D : List Nat) (v4 v6 : Bool) (w : World) (h : Rd w x (nus .u8 zs)) (hb : ∀ c ∈ zs, c < 256) (hz : zs.length ≤ 65535) (hA4 : A4.length = 16) (hA6 : A6.length = 16) (hD : D.length = 16) (hr : rr zs = 0) (h4 : v4 = false) (h6 : v6 = true) (hb4 : ∀ c ∈ A4, c < 256) (hb6 : ∀ c ∈ A6, c < 256) (hbD : ∀ c ∈ D, c < 256) (hv4 : vldA false A4 = true) (hvD : vldA false D = true) (hs : 65535 < inS zs false) :
    Calls Try.prog 11 #[x, adr v4 A4, adr v6 A6, adr false D] w fun e w' => e = .returned (.tuple #[.slice none 0 0, .int .i64 9]) ∧ Below w.heap.size w w' := by
  have K := Lib.hid (Below.refl w.heap.size w)
  have HR := Lib.hid h
  have CF := Lib.hid (fun W (h : Rd W x (nus .u8 zs)) => fread_any x zs W h hb (.inl hz))
  obtain ⟨a, cap, rfl, hlc, hlm⟩ := rd_shape h
  have YV : Hid ((vw zs).size = Array.size (ZcV : Array Value)) := vw_size zs
  have QV := Lib.hid (i72.trans (congrArg some (vw_size zs).symm))
  have AV := Lib.hid (vw_all zs)
  have s4 : (cellsA v4 A4).size = 17 := by rw [cellsA_size, hA4]
  have s6 : (cellsA v6 A6).size = 17 := by rw [cellsA_size, hA6]
  have sD : (cellsA false D).size = 17 := by rw [cellsA_size, hD]
  have Y46 : Hid ((cellsA v6 A6).size = (cellsA v4 A4).size) := s6.trans s4.symm
  have Q4 := Lib.hid (i24.trans (congrArg some s4.symm))
  have Q6 := Lib.hid (i24.trans (congrArg some s6.symm))
  have QD := Lib.hid (i24.trans (congrArg some sD.symm))
  have E6 := Lib.hid (cellsA_all v6 A6)
  have G4 := Lib.hid (cellsA_head v4 A4)
  have G6 := Lib.hid (cellsA_head v6 A6)
  have GD := Lib.hid (cellsA_head false D)
  subst h4 h6
  have hF := frame9 zs hr
  have hV := view9 zs hr
  have eE : nE zs = nN zs + fL (sixF zs) (pkt zs) := rfl
  have hn0 := hF.n0
  have hnl := hF.nl
  have hel := hF.eL
  have q1 := hF.hd0.low
  have q2 := hF.hd0.mid
  obtain ⟨L, hL⟩ : ∃ q, q = fL (sixF zs) (pkt zs) := ⟨_, rfl⟩
  obtain ⟨n, hn⟩ : ∃ q, q = nN zs := ⟨_, rfl⟩
  have en : (net zs).1 = n := hn.symm
  rw [← hL, ← hn] at eE
  rw [← hL] at q2
  rw [en] at hn0 hnl
  rw [eE] at hel
  have G0 := Lib.hid hV.c0
  have hc1 := hV.c1
  have hc3 := hV.c3
  rw [← hn] at hc1
  rw [eE] at hc3
  have G1 := Lib.hid hc1
  have G3 := Lib.hid hc3
  rw [hr] at CF
  have C26 := Lib.hid (fun W => valid_any false A4 hA4 hb4 W)
  have C27 := Lib.hid (fun W => valid_any true A6 hA6 hb6 W)
  have C28 := Lib.hid (fun W => valid_any false D hD hbD W)
  rw [hv4] at C26
  rw [show vldA true A6 = true from rfl] at C27
  rw [hvD] at C28
  have hpr : prN (sixF zs) < 256 := by unfold prN; split <;> decide
  have CH := Lib.hid (fun W => header_any false A4 D (prN (sixF zs)) L W hA4 hD hb4 hbD hpr)
  have CKD := Lib.hid (fun W => kindOf_any false W)
  have CPR := Lib.hid (fun W => protoOf_any (sixF zs) W)
  obtain ⟨nn, hnn⟩ : ∃ q, n = q + 2 := ⟨n - 2, by omega⟩
  obtain ⟨b, off, rfl, -⟩ := h.cells (by omega)
  have CW := Lib.hid (fun W h => with_yes (.slice (some ⟨b, off, none⟩) zs.length cap) zs (kN false) nn W h hb (by decide) hF.net0 (by omega) (by omega) (by omega))
  have hwl : (zs.take nn ++ bg 2 (kN false)).length = nn + 2 := by rw [List.length_append, List.length_take, bg_length]; omega
  rw [← hnn] at CW hwl
  have R2 := Lib.hid (show Rd w _ (nus .u8 ((zs.drop n).take L)) from Rd.sub h n L (by omega))
  have hql : ((zs.drop n).take L).length = L := by rw [List.length_take, List.length_drop]; omega
  have hcn : ¬ cap = n := by omega
  have hss : inS zs false = n + hH false + (n + L - n) := by unfold inS; rw [← hn, eE]
  rw [Nat.add_sub_cancel_left] at hss
  have hH40 : hH false ≤ 40 := by decide
  obtain ⟨ok, hok⟩ : ∃ o, o = decide (L ≤ capB false) := ⟨_, rfl⟩
  have hM2 : ok = true → (hdM false A4 D (prN (sixF zs)) L).length = hH false := fun q => by
    rw [hok, decide_eq_true_iff] at q
    rw [show hdM false A4 D (prN (sixF zs)) L = headB false A4 D (prN (sixF zs)) L from if_pos q]
    exact headB_len false _ D _ _ hA4 hD
  rw [← hok] at CH
  have HM2 := Lib.hid hM2
  clear hM2 hok
  generalize hdM false A4 D (prN (sixF zs)) L = MM at *
  rw [hss] at hs
  unfold adr at CH C26 C27 C28 ⊢
  generalize (zs.take nn ++ bg 2 (kN false)) = E at *
  generalize (zs.drop n).take L = Q at *
  generalize prN (sixF zs) = pr at *
  generalize kN false = kk at *
  generalize sixF zs = six at *
  have HWL := Lib.hid hwl
  have HQL := Lib.hid hql
  generalize cellsA false A4 = C4 at *
  generalize cellsA true A6 = C6 at *
  generalize cellsA false D = CD at *
  generalize vw zs = VW at *
  have hlen : zs.length ≤ 65535 := hz
  generalize zs.length = len at *
  have hlow : 20 ≤ L := by omega
  clear h hb hz hA4 hA6 hD hr hb4 hb6 hbD hv4 hvD hF hV eE q1 q2 hL hn en hc1 hc3 hwl hql s4 s6 sD hpr hss hnn
  unfold maxLen at hlm
  go_enter Try.func11, Try.ntmps11
  have hal := (Below.refl w.heap.size w).alloc (Nat.le_refl _) (.cells C4 27)
  replace K := Lib.hid (K.out.trans (hal.mono K.out.size))
  have H4 := Lib.hid (Blk.new w 27 C4)
  clear hal
  have hal := (Below.refl (w.alloc (.cells C4 27)).heap.size (w.alloc (.cells C4 27))).alloc (Nat.le_refl _) (.cells C6 27)
  replace K := Lib.hid (K.out.trans (hal.mono K.out.size))
  replace H4 := Lib.hid (H4.out.below hal H4.out.lt)
  have H6q := Blk.new (w.alloc (.cells C4 27)) 27 C6
  simp only [World.size_alloc] at H6q
  have H6 := Lib.hid H6q
  clear H6q
  clear hal
  have hal := (Below.refl ((w.alloc (.cells C4 27)).alloc (.cells C6 27)).heap.size ((w.alloc (.cells C4 27)).alloc (.cells C6 27))).alloc (Nat.le_refl _) (.cells CD 27)
  replace K := Lib.hid (K.out.trans (hal.mono K.out.size))
  replace H4 := Lib.hid (H4.out.below hal H4.out.lt)
  replace H6 := Lib.hid (H6.out.below hal H6.out.lt)
  have HDq := Blk.new ((w.alloc (.cells C4 27)).alloc (.cells C6 27)) 27 CD
  simp only [World.size_alloc] at HDq
  have HD := Lib.hid HDq
  clear HDq
  clear hal
  go_wp2_with fail
  have hzV1 : Hid ((((w.alloc (.cells C4 27)).alloc (.cells C6 27)).alloc (.cells CD 27)).heap.size = w.heap.size + 1 + 1 + 1) := by show _ = _; simp only [World.size_alloc]
  generalize (((w.alloc (.cells C4 27)).alloc (.cells C6 27)).alloc (.cells CD 27)) = V1 at *
  refine (CF.out V1 (HR.out.below K.out)).mono ?_
  rintro e V2 ⟨rfl, hy⟩
  replace K := Lib.hid (K.out.trans (hy.mono K.out.size))
  replace H4 := Lib.hid (H4.out.below hy H4.out.lt)
  replace H6 := Lib.hid (H6.out.below hy H6.out.lt)
  replace HD := Lib.hid (HD.out.below hy HD.out.lt)
  clear hy
  go_wp2_with (((with_reducible refine wpList_blk_store (op := ⟨none, .store 50 (.tmp 10) (.tmp 18), _, _, _, _⟩) ?sg17 50 (.tmp 10) (.tmp 18) ?so17 (V2.heap.size) VW ?sx17 ?sy17 (Blk.new V2 50 ZcV) YV.out QV.out AV.out ?_); (case sg17 => rfl); (case so17 => rfl); (case sx17 => rfl); (case sy17 => rfl)))
  have qH4HV : w.heap.size < V2.heap.size := H4.out.lt
  have qH6HV : w.heap.size + 1 < V2.heap.size := H6.out.lt
  have qHDHV : w.heap.size + 2 < V2.heap.size := HD.out.lt
  intro V3 hA hF hB
  have hy := ((Below.refl V2.heap.size V2).alloc (Nat.le_refl _) (.cells ZcV 50)).trans (hB _ (Nat.le_refl _))
  replace K := Lib.hid (K.out.trans (hy.mono K.out.size))
  replace H4 := Lib.hid (H4.out.below hy H4.out.lt)
  replace H6 := Lib.hid (H6.out.below hy H6.out.lt)
  replace HD := Lib.hid (HD.out.below hy HD.out.lt)
  have HV := Lib.hid hA
  clear hA hF hB hy
  have L18 := (HD.out.cell 0).trans GD.out
  have L19 := (H4.out.cell 0).trans G4.out
  have L20 := (HD.out.cell 0).trans GD.out
  have L21 : (loadVar 27 ⟨w.heap.size, 0, none⟩).run Try.prog V3 = .ok (.agg C4) V3 := run_blk_load (P := Try.prog) 27 (w.heap.size) _ H4.out Try.underlying27 rfl Q4.out
  replace L21 := Lib.hid L21
  go_wp2_with (((with_reducible refine wpList_load_want (op := ⟨some 32, .load 27 (.tmp 5), _, _, _, _⟩) ?wg21 27 (.tmp 5) ?wo21 ⟨w.heap.size, 0, none⟩ ?wx21 (.agg C4) L21.out ?_); (case wg21 => rfl); (case wo21 => rfl); (case wx21 => rfl)))
  clear L18 L19 L20 L21
  refine (C26.out V3).mono ?_
  rintro e V4 ⟨rfl, hy⟩
  replace K := Lib.hid (K.out.trans (hy.mono K.out.size))
  replace H4 := Lib.hid (H4.out.below hy H4.out.lt)
  replace H6 := Lib.hid (H6.out.below hy H6.out.lt)
  replace HD := Lib.hid (HD.out.below hy HD.out.lt)
  replace HV := Lib.hid (HV.out.below hy HV.out.lt)
  clear hy
  have L22 : (loadVar 27 ⟨w.heap.size + 2, 0, none⟩).run Try.prog V4 = .ok (.agg CD) V4 := run_blk_load (P := Try.prog) 27 (w.heap.size + 2) _ HD.out Try.underlying27 rfl QD.out
  replace L22 := Lib.hid L22
  go_wp2_with (((with_reducible refine wpList_load_want (op := ⟨some 37, .load 27 (.tmp 7), _, _, _, _⟩) ?wg22 27 (.tmp 7) ?wo22 ⟨w.heap.size + 2, 0, none⟩ ?wx22 (.agg CD) L22.out ?_); (case wg22 => rfl); (case wo22 => rfl); (case wx22 => rfl)))
  clear L22
  refine (C28.out V4).mono ?_
  rintro e V5 ⟨rfl, hy⟩
  replace K := Lib.hid (K.out.trans (hy.mono K.out.size))
  replace H4 := Lib.hid (H4.out.below hy H4.out.lt)
  replace H6 := Lib.hid (H6.out.below hy H6.out.lt)
  replace HD := Lib.hid (HD.out.below hy HD.out.lt)
  replace HV := Lib.hid (HV.out.below hy HV.out.lt)
  clear hy
  have q : (n : Int) ≤ ((n + L : Nat) : Int) := (by omega)
  have q2 : ((n + L : Nat) : Int) ≤ (cap : Int) := (by omega)
  have L23 := (HV.out.cell 1).trans G1.out
  have L24 := (HV.out.cell 3).trans G3.out
  have L25 := (HD.out.cell 0).trans GD.out
  go_wp2_with fail
  clear L23 L24 L25
  refine (CKD.out V5).mono ?_
  rintro e V6 ⟨rfl, rfl⟩
  go_wp2_with fail
  refine (CW.out V5 (HR.out.below K.out)).mono ?_
  rintro e V7 ⟨x1, rfl, ox1, hy⟩
  replace K := Lib.hid (K.out.trans (hy.mono K.out.size))
  replace H4 := Lib.hid (H4.out.below hy H4.out.lt)
  replace H6 := Lib.hid (H6.out.below hy H6.out.lt)
  replace HD := Lib.hid (HD.out.below hy HD.out.lt)
  replace HV := Lib.hid (HV.out.below hy HV.out.lt)
  obtain ⟨g1, k1, rfl, -, -, -, -⟩ := own_at ox1 (by omega)
  have RX1 := Lib.hid (Rd.own ox1)
  clear ox1
  clear hy
  clear q q2
  go_wp2_with fail
  refine wp_region_held (S := (fun w' : World => Below (V7.heap.size) V7 w')) (by kernel_rfl) ?_
  change wpAnyH _ _ _ _ _ _ _ _ V7.drew
  have hy : Below V7.heap.size V7 V7.drew := (Below.refl _ _).drew
  have hE0 : Below (V7.heap.size) V7 V7.drew := (Below.refl _ _).drew
  clear hy
  generalize V7.drew = Y10x0 at hE0  ⊢
  have E0 := Lib.hid hE0
  clear hE0
  refine tkA 0 (.agg C4) ?_ E0.out ?_
  · (intro w1 hS; have hW := hS; exact exec_load 27 (.tmp 5) rfl _ rfl _ (run_blk_load (P := Try.prog) 27 (w.heap.size) _ (H4.out.below hW H4.out.lt) Try.underlying27 rfl Q4.out))
  simp only [Act.put, tS1, tS2, tS3]
  refine tkA 1 (.agg CD) ?_ E0.out ?_
  · (intro w1 hS; have hW := hS; exact exec_load 27 (.tmp 7) rfl _ rfl _ (run_blk_load (P := Try.prog) 27 (w.heap.size + 2) _ (HD.out.below hW HD.out.lt) Try.underlying27 rfl QD.out))
  simp only [Act.put, tS1, tS2, tS3]
  refine tkA 2 (?_) ?_ E0.out ?_
  rotate_left
  · (intro w1 hS; go_simp; try with_reducible rfl)
  simp only [Act.put, tS1, tS2, tS3]
  refine tkA 3 (?_) ?_ E0.out ?_
  rotate_left
  · (intro w1 hS; have hW := hS; have q := ((HV.out.below hW HV.out.lt).cell 0).trans G0.out; clear hW hS; go_simp; try with_reducible rfl)
  simp only [Act.put, tS1, tS2, tS3]
  refine tkA 5 (?_) ?_ E0.out ?_
  rotate_left
  · (intro w1 hS; go_simp; try with_reducible rfl)
  simp only [Act.put, tS1, tS2, tS3]
  refine tkA 6 (?_) ?_ E0.out ?_
  rotate_left
  · (intro w1 hS; go_simp; try with_reducible rfl)
  simp only [Act.put, tS1, tS2, tS3]
  refine tkO 4 (fun KK hK => ?_)
  go_simp
  refine (same_below (CPR.out Y10x0)).mono ?_
  rintro e Y10x1 ⟨rfl, hy⟩
  have E1 := Lib.hid (E0.out.trans (hy.mono E0.out.size))
  have C1 := Lib.hid E1.out
  clear hy E0
  refine hK.out _ _ C1.out (fun _ => ?_)
  clear hK KK
  refine wpAnyH_mono (S' := (fun w' : World => Below Y10x1.heap.size Y10x1 w')) (fun w1 h => C1.out.trans (h.mono C1.out.size)) _ _ _ _ ?_
  clear C1
  try simp only [Act.put, tS1, tS2, tS3]
  refine tkO 7 (fun KK hK => ?_)
  go_simp
  refine (CH.out Y10x1).mono ?_
  rintro e Y10x2 ⟨x2, rfl, rx2, hy⟩
  have E2 := Lib.hid (E1.out.trans (hy.mono E1.out.size))
  have C2 := Lib.hid hy
  have RX2 := Lib.hid (rx2)
  clear rx2
  clear hy E1
  refine hK.out _ _ C2.out (fun _ => ?_)
  clear hK KK
  refine wpAnyH_mono (S' := (fun w' : World => Below Y10x2.heap.size Y10x2 w')) (fun w1 h => C2.out.trans (h.mono C2.out.size)) _ _ _ _ ?_
  clear C2
  try simp only [Act.put, tS1, tS2, tS3]
  refine tkA 8 (?_) ?_ (Below.refl _ _) ?_
  rotate_left
  · (intro w1 hS; go_simp; try with_reducible rfl)
  simp only [Act.put, tS1, tS2, tS3]
  refine tkA 9 (?_) ?_ (Below.refl _ _) ?_
  rotate_left
  · (intro w1 hS; go_simp; try with_reducible rfl)
  simp only [Act.put, tS1, tS2, tS3]
  refine tkA 11 (?_) ?_ (Below.refl _ _) ?_
  rotate_left
  · (intro w1 hS; go_simp; try with_reducible rfl)
  simp only [Act.put, tS1, tS2, tS3]
  refine tkA 10 (?_) ?_ (Below.refl _ _) ?_
  rotate_left
  · (intro w1 hS; go_simp; try with_reducible rfl)
  simp only [Act.put, tS1, tS2, tS3]
  refine tkA 12 (?_) ?_ (Below.refl _ _) ?_
  rotate_left
  · (intro w1 hS; go_simp; try with_reducible rfl)
  simp only [Act.put, tS1, tS2, tS3]
  refine wpAnyH_done (by kernel_rfl) ?_ _
  have hy := E2.out
  replace K := Lib.hid (K.out.trans (hy.mono K.out.size))
  replace H4 := Lib.hid (H4.out.below hy H4.out.lt)
  replace H6 := Lib.hid (H6.out.below hy H6.out.lt)
  replace HD := Lib.hid (HD.out.below hy HD.out.lt)
  replace HV := Lib.hid (HV.out.below hy HV.out.lt)
  replace RX1 := Lib.hid (RX1.out.below hy)
  clear hy E2
  obtain ⟨a3, k3, ey, -, -⟩ := rd_shape RX2.out
  subst ey
  generalize MM.length = ml at *
  cases ok with
  | true =>
    have hm2 := HM2.out rfl
    have hml : 65535 < n + ml + L := by omega
    have hml2 : ml ≤ 40 := by omega
    clear hm2
    go_wp2
    go_ret2
    exact ⟨rfl, K.out⟩
  | false =>
    go_wp2
    go_ret2
    exact ⟨rfl, K.out⟩
set_option maxRecDepth 100000 in
set_option maxHeartbeats 8000000 in
theorem in_ok6 (x : Value) (zs A4 A6 D : List Nat) (v4 v6 : Bool) (w : World) (h : Rd w x (nus .u8 zs)) (hb : ∀ c ∈ zs, c < 256) (hz : zs.length ≤ 65535) (hA4 : A4.length = 16) (hA6 : A6.length = 16) (hD : D.length = 16) (hr : rr zs = 0) (h4 : v4 = false) (h6 : v6 = true) (hb6 : ∀ c ∈ A6, c < 256) (hbD : ∀ c ∈ D, c < 256) (hvD : vldA true D = true) (hs : inS zs true ≤ 65535) :
    Calls Try.prog 11 #[x, adr v4 A4, adr v6 A6, adr true D] w fun e w' => ∃ y, e = .returned (.tuple #[y, .int .i64 0]) ∧ Rd w' y (nus .u8 (inn zs true A6 D)) ∧ Below w.heap.size w w' := by
  have K := Lib.hid (Below.refl w.heap.size w)
  have HR := Lib.hid h
  have CF := Lib.hid (fun W (h : Rd W x (nus .u8 zs)) => fread_any x zs W h hb (.inl hz))
  obtain ⟨a, cap, rfl, hlc, hlm⟩ := rd_shape h
  have YV : Hid ((vw zs).size = Array.size (ZcV : Array Value)) := vw_size zs
  have QV := Lib.hid (i72.trans (congrArg some (vw_size zs).symm))
  have AV := Lib.hid (vw_all zs)
  have s4 : (cellsA v4 A4).size = 17 := by rw [cellsA_size, hA4]
  have s6 : (cellsA v6 A6).size = 17 := by rw [cellsA_size, hA6]
  have sD : (cellsA true D).size = 17 := by rw [cellsA_size, hD]
  have Y46 : Hid ((cellsA v6 A6).size = (cellsA v4 A4).size) := s6.trans s4.symm
  have Q4 := Lib.hid (i24.trans (congrArg some s4.symm))
  have Q6 := Lib.hid (i24.trans (congrArg some s6.symm))
  have QD := Lib.hid (i24.trans (congrArg some sD.symm))
  have E6 := Lib.hid (cellsA_all v6 A6)
  have G4 := Lib.hid (cellsA_head v4 A4)
  have G6 := Lib.hid (cellsA_head v6 A6)
  have GD := Lib.hid (cellsA_head true D)
  subst h4 h6
  have hF := frame9 zs hr
  have hV := view9 zs hr
  have eE : nE zs = nN zs + fL (sixF zs) (pkt zs) := rfl
  have hn0 := hF.n0
  have hnl := hF.nl
  have hel := hF.eL
  have q1 := hF.hd0.low
  have q2 := hF.hd0.mid
  obtain ⟨L, hL⟩ : ∃ q, q = fL (sixF zs) (pkt zs) := ⟨_, rfl⟩
  obtain ⟨n, hn⟩ : ∃ q, q = nN zs := ⟨_, rfl⟩
  have en : (net zs).1 = n := hn.symm
  rw [← hL, ← hn] at eE
  rw [← hL] at q2
  rw [en] at hn0 hnl
  rw [eE] at hel
  have G0 := Lib.hid hV.c0
  have hc1 := hV.c1
  have hc3 := hV.c3
  rw [← hn] at hc1
  rw [eE] at hc3
  have G1 := Lib.hid hc1
  have G3 := Lib.hid hc3
  rw [hr] at CF
  have C27 := Lib.hid (fun W => valid_any true A6 hA6 hb6 W)
  have C28 := Lib.hid (fun W => valid_any true D hD hbD W)
  rw [show vldA true A6 = true from rfl] at C27
  rw [hvD] at C28
  have hpr : prN (sixF zs) < 256 := by unfold prN; split <;> decide
  have CH := Lib.hid (fun W => header_any true A6 D (prN (sixF zs)) L W hA6 hD hb6 hbD hpr)
  have CKD := Lib.hid (fun W => kindOf_any true W)
  have CPR := Lib.hid (fun W => protoOf_any (sixF zs) W)
  obtain ⟨nn, hnn⟩ : ∃ q, n = q + 2 := ⟨n - 2, by omega⟩
  obtain ⟨b, off, rfl, -⟩ := h.cells (by omega)
  have CW := Lib.hid (fun W h => with_yes (.slice (some ⟨b, off, none⟩) zs.length cap) zs (kN true) nn W h hb (by decide) hF.net0 (by omega) (by omega) (by omega))
  have hwl : (zs.take nn ++ bg 2 (kN true)).length = nn + 2 := by rw [List.length_append, List.length_take, bg_length]; omega
  rw [← hnn] at CW hwl
  have R2 := Lib.hid (show Rd w _ (nus .u8 ((zs.drop n).take L)) from Rd.sub h n L (by omega))
  have hql : ((zs.drop n).take L).length = L := by rw [List.length_take, List.length_drop]; omega
  have hcn : ¬ cap = n := by omega
  have hss : inS zs true = n + hH true + (n + L - n) := by unfold inS; rw [← hn, eE]
  rw [Nat.add_sub_cancel_left] at hss
  have hH40 : hH true ≤ 40 := by decide
  have hcap : L ≤ capB true := by
    have e : hH true + capB true = 65575 := by decide
    rw [hss] at hs
    omega
  rw [decide_eq_true hcap, show hdM true A6 D (prN (sixF zs)) L = headB true A6 D (prN (sixF zs)) L from if_pos hcap] at CH
  have hml := headB_len true A6 D (prN (sixF zs)) L hA6 hD
  have ein : inn zs true A6 D = (zs.take nn ++ bg 2 (kN true)) ++ (headB true A6 D (prN (sixF zs)) L ++ (zs.drop n).take L) := by
    unfold inn pkt
    rw [← hn, eE, Nat.add_sub_cancel_left, en, show n - 2 = nn by omega]
  rw [ein]
  clear ein hcap
  have hml2 : (headB true A6 D (prN (sixF zs)) L).length = hH true := hml
  clear hml
  rw [hss] at hs
  generalize headB true A6 D (prN (sixF zs)) L = MM at *
  have h20H : 20 ≤ hH true := by decide
  obtain ⟨ml, hmq⟩ : ∃ q, q = hH true := ⟨_, rfl⟩
  rw [← hmq] at hml2 h20H hs hH40
  have HML := Lib.hid hml2
  clear hml2 hmq
  unfold adr at CH C27 C28 ⊢
  generalize (zs.take nn ++ bg 2 (kN true)) = E at *
  generalize (zs.drop n).take L = Q at *
  generalize prN (sixF zs) = pr at *
  generalize kN true = kk at *
  generalize sixF zs = six at *
  have HWL := Lib.hid hwl
  have HQL := Lib.hid hql
  generalize cellsA false A4 = C4 at *
  generalize cellsA true A6 = C6 at *
  generalize cellsA true D = CD at *
  generalize vw zs = VW at *
  have hlen : zs.length ≤ 65535 := hz
  generalize zs.length = len at *
  have hlow : 20 ≤ L := by omega
  clear h hb hz hA4 hA6 hD hr hb6 hbD hvD hF hV eE q1 q2 hL hn en hc1 hc3 hwl hql s4 s6 sD hpr hss hnn
  unfold maxLen at hlm
  go_enter Try.func11, Try.ntmps11
  have hal := (Below.refl w.heap.size w).alloc (Nat.le_refl _) (.cells C4 27)
  replace K := Lib.hid (K.out.trans (hal.mono K.out.size))
  have H4 := Lib.hid (Blk.new w 27 C4)
  clear hal
  have hal := (Below.refl (w.alloc (.cells C4 27)).heap.size (w.alloc (.cells C4 27))).alloc (Nat.le_refl _) (.cells C6 27)
  replace K := Lib.hid (K.out.trans (hal.mono K.out.size))
  replace H4 := Lib.hid (H4.out.below hal H4.out.lt)
  have H6q := Blk.new (w.alloc (.cells C4 27)) 27 C6
  simp only [World.size_alloc] at H6q
  have H6 := Lib.hid H6q
  clear H6q
  clear hal
  have hal := (Below.refl ((w.alloc (.cells C4 27)).alloc (.cells C6 27)).heap.size ((w.alloc (.cells C4 27)).alloc (.cells C6 27))).alloc (Nat.le_refl _) (.cells CD 27)
  replace K := Lib.hid (K.out.trans (hal.mono K.out.size))
  replace H4 := Lib.hid (H4.out.below hal H4.out.lt)
  replace H6 := Lib.hid (H6.out.below hal H6.out.lt)
  have HDq := Blk.new ((w.alloc (.cells C4 27)).alloc (.cells C6 27)) 27 CD
  simp only [World.size_alloc] at HDq
  have HD := Lib.hid HDq
  clear HDq
  clear hal
  go_wp2_with fail
  have hzV1 : Hid ((((w.alloc (.cells C4 27)).alloc (.cells C6 27)).alloc (.cells CD 27)).heap.size = w.heap.size + 1 + 1 + 1) := by show _ = _; simp only [World.size_alloc]
  generalize (((w.alloc (.cells C4 27)).alloc (.cells C6 27)).alloc (.cells CD 27)) = V1 at *
  refine (CF.out V1 (HR.out.below K.out)).mono ?_
  rintro e V2 ⟨rfl, hy⟩
  replace K := Lib.hid (K.out.trans (hy.mono K.out.size))
  replace H4 := Lib.hid (H4.out.below hy H4.out.lt)
  replace H6 := Lib.hid (H6.out.below hy H6.out.lt)
  replace HD := Lib.hid (HD.out.below hy HD.out.lt)
  clear hy
  go_wp2_with (((with_reducible refine wpList_blk_store (op := ⟨none, .store 50 (.tmp 10) (.tmp 18), _, _, _, _⟩) ?sg26 50 (.tmp 10) (.tmp 18) ?so26 (V2.heap.size) VW ?sx26 ?sy26 (Blk.new V2 50 ZcV) YV.out QV.out AV.out ?_); (case sg26 => rfl); (case so26 => rfl); (case sx26 => rfl); (case sy26 => rfl)))
  have qH4HV : w.heap.size < V2.heap.size := H4.out.lt
  have qH6HV : w.heap.size + 1 < V2.heap.size := H6.out.lt
  have qHDHV : w.heap.size + 2 < V2.heap.size := HD.out.lt
  intro V3 hA hF hB
  have hy := ((Below.refl V2.heap.size V2).alloc (Nat.le_refl _) (.cells ZcV 50)).trans (hB _ (Nat.le_refl _))
  replace K := Lib.hid (K.out.trans (hy.mono K.out.size))
  replace H4 := Lib.hid (H4.out.below hy H4.out.lt)
  replace H6 := Lib.hid (H6.out.below hy H6.out.lt)
  replace HD := Lib.hid (HD.out.below hy HD.out.lt)
  have HV := Lib.hid hA
  clear hA hF hB hy
  have L27 := (HD.out.cell 0).trans GD.out
  have L28 : (loadVar 27 ⟨w.heap.size + 1, 0, none⟩).run Try.prog V3 = .ok (.agg C6) V3 := run_blk_load (P := Try.prog) 27 (w.heap.size + 1) _ H6.out Try.underlying27 rfl Q6.out
  replace L28 := Lib.hid L28
  go_wp2_with (first | ((with_reducible refine wpList_load_want (op := ⟨some 25, .load 27 (.tmp 6), _, _, _, _⟩) ?wg28 27 (.tmp 6) ?wo28 ⟨w.heap.size + 1, 0, none⟩ ?wx28 (.agg C6) L28.out ?_); (case wg28 => rfl); (case wo28 => rfl); (case wx28 => rfl)) | ((with_reducible refine wpList_blk_store (op := ⟨none, .store 27 (.tmp 5) (.tmp 25), _, _, _, _⟩) ?sg29 27 (.tmp 5) (.tmp 25) ?so29 (w.heap.size) C6 ?sx29 ?sy29 H4.out Y46.out Q6.out E6.out ?_); (case sg29 => rfl); (case so29 => rfl); (case sx29 => rfl); (case sy29 => rfl)))
  clear L27 L28
  intro V4 hA hF hB
  replace K := Lib.hid (K.out.trans (hB _ (by omega)))
  replace H6 := Lib.hid (show Blk _ _ _ _ from (hF _ (by omega)).trans H6.out)
  replace HD := Lib.hid (show Blk _ _ _ _ from (hF _ (by omega)).trans HD.out)
  replace HV := Lib.hid (show Blk _ _ _ _ from (hF _ (by omega)).trans HV.out)
  replace H4 := Lib.hid hA
  clear hA hF hB
  have L30 := (H4.out.cell 0).trans G6.out
  have L31 := (HD.out.cell 0).trans GD.out
  have L32 : (loadVar 27 ⟨w.heap.size, 0, none⟩).run Try.prog V4 = .ok (.agg C6) V4 := run_blk_load (P := Try.prog) 27 (w.heap.size) _ H4.out Try.underlying27 rfl Q6.out
  replace L32 := Lib.hid L32
  go_wp2_with (((with_reducible refine wpList_load_want (op := ⟨some 32, .load 27 (.tmp 5), _, _, _, _⟩) ?wg32 27 (.tmp 5) ?wo32 ⟨w.heap.size, 0, none⟩ ?wx32 (.agg C6) L32.out ?_); (case wg32 => rfl); (case wo32 => rfl); (case wx32 => rfl)))
  clear L30 L31 L32
  refine (C27.out V4).mono ?_
  rintro e V5 ⟨rfl, hy⟩
  replace K := Lib.hid (K.out.trans (hy.mono K.out.size))
  replace H4 := Lib.hid (H4.out.below hy H4.out.lt)
  replace H6 := Lib.hid (H6.out.below hy H6.out.lt)
  replace HD := Lib.hid (HD.out.below hy HD.out.lt)
  replace HV := Lib.hid (HV.out.below hy HV.out.lt)
  clear hy
  have L33 : (loadVar 27 ⟨w.heap.size + 2, 0, none⟩).run Try.prog V5 = .ok (.agg CD) V5 := run_blk_load (P := Try.prog) 27 (w.heap.size + 2) _ HD.out Try.underlying27 rfl QD.out
  replace L33 := Lib.hid L33
  go_wp2_with (((with_reducible refine wpList_load_want (op := ⟨some 37, .load 27 (.tmp 7), _, _, _, _⟩) ?wg33 27 (.tmp 7) ?wo33 ⟨w.heap.size + 2, 0, none⟩ ?wx33 (.agg CD) L33.out ?_); (case wg33 => rfl); (case wo33 => rfl); (case wx33 => rfl)))
  clear L33
  refine (C28.out V5).mono ?_
  rintro e V6 ⟨rfl, hy⟩
  replace K := Lib.hid (K.out.trans (hy.mono K.out.size))
  replace H4 := Lib.hid (H4.out.below hy H4.out.lt)
  replace H6 := Lib.hid (H6.out.below hy H6.out.lt)
  replace HD := Lib.hid (HD.out.below hy HD.out.lt)
  replace HV := Lib.hid (HV.out.below hy HV.out.lt)
  clear hy
  have q : (n : Int) ≤ ((n + L : Nat) : Int) := (by omega)
  have q2 : ((n + L : Nat) : Int) ≤ (cap : Int) := (by omega)
  have L34 := (HV.out.cell 1).trans G1.out
  have L35 := (HV.out.cell 3).trans G3.out
  have L36 := (HD.out.cell 0).trans GD.out
  go_wp2_with fail
  clear L34 L35 L36
  refine (CKD.out V6).mono ?_
  rintro e V7 ⟨rfl, rfl⟩
  go_wp2_with fail
  refine (CW.out V6 (HR.out.below K.out)).mono ?_
  rintro e V8 ⟨x1, rfl, ox1, hy⟩
  replace K := Lib.hid (K.out.trans (hy.mono K.out.size))
  replace H4 := Lib.hid (H4.out.below hy H4.out.lt)
  replace H6 := Lib.hid (H6.out.below hy H6.out.lt)
  replace HD := Lib.hid (HD.out.below hy HD.out.lt)
  replace HV := Lib.hid (HV.out.below hy HV.out.lt)
  obtain ⟨g1, k1, rfl, -, -, -, -⟩ := own_at ox1 (by omega)
  have RX1 := Lib.hid (Rd.own ox1)
  clear ox1
  clear hy
  clear q q2
  go_wp2_with fail
  refine wp_region_held (S := (fun w' : World => Below (V8.heap.size) V8 w')) (by kernel_rfl) ?_
  change wpAnyH _ _ _ _ _ _ _ _ V8.drew
  have hy : Below V8.heap.size V8 V8.drew := (Below.refl _ _).drew
  have hE0 : Below (V8.heap.size) V8 V8.drew := (Below.refl _ _).drew
  clear hy
  generalize V8.drew = Y10x0 at hE0  ⊢
  have E0 := Lib.hid hE0
  clear hE0
  refine tkA 0 (.agg C6) ?_ E0.out ?_
  · (intro w1 hS; have hW := hS; exact exec_load 27 (.tmp 5) rfl _ rfl _ (run_blk_load (P := Try.prog) 27 (w.heap.size) _ (H4.out.below hW H4.out.lt) Try.underlying27 rfl Q6.out))
  simp only [Act.put, tS1, tS2, tS3]
  refine tkA 1 (.agg CD) ?_ E0.out ?_
  · (intro w1 hS; have hW := hS; exact exec_load 27 (.tmp 7) rfl _ rfl _ (run_blk_load (P := Try.prog) 27 (w.heap.size + 2) _ (HD.out.below hW HD.out.lt) Try.underlying27 rfl QD.out))
  simp only [Act.put, tS1, tS2, tS3]
  refine tkA 2 (?_) ?_ E0.out ?_
  rotate_left
  · (intro w1 hS; go_simp; try with_reducible rfl)
  simp only [Act.put, tS1, tS2, tS3]
  refine tkA 3 (?_) ?_ E0.out ?_
  rotate_left
  · (intro w1 hS; have hW := hS; have q := ((HV.out.below hW HV.out.lt).cell 0).trans G0.out; clear hW hS; go_simp; try with_reducible rfl)
  simp only [Act.put, tS1, tS2, tS3]
  refine tkA 5 (?_) ?_ E0.out ?_
  rotate_left
  · (intro w1 hS; go_simp; try with_reducible rfl)
  simp only [Act.put, tS1, tS2, tS3]
  refine tkA 6 (?_) ?_ E0.out ?_
  rotate_left
  · (intro w1 hS; go_simp; try with_reducible rfl)
  simp only [Act.put, tS1, tS2, tS3]
  refine tkO 4 (fun KK hK => ?_)
  go_simp
  refine (same_below (CPR.out Y10x0)).mono ?_
  rintro e Y10x1 ⟨rfl, hy⟩
  have E1 := Lib.hid (E0.out.trans (hy.mono E0.out.size))
  have C1 := Lib.hid E1.out
  clear hy E0
  refine hK.out _ _ C1.out (fun _ => ?_)
  clear hK KK
  refine wpAnyH_mono (S' := (fun w' : World => Below Y10x1.heap.size Y10x1 w')) (fun w1 h => C1.out.trans (h.mono C1.out.size)) _ _ _ _ ?_
  clear C1
  try simp only [Act.put, tS1, tS2, tS3]
  refine tkO 7 (fun KK hK => ?_)
  go_simp
  refine (CH.out Y10x1).mono ?_
  rintro e Y10x2 ⟨x2, rfl, rx2, hy⟩
  have E2 := Lib.hid (E1.out.trans (hy.mono E1.out.size))
  have C2 := Lib.hid hy
  have RX2 := Lib.hid (rx2)
  clear rx2
  clear hy E1
  refine hK.out _ _ C2.out (fun _ => ?_)
  clear hK KK
  refine wpAnyH_mono (S' := (fun w' : World => Below Y10x2.heap.size Y10x2 w')) (fun w1 h => C2.out.trans (h.mono C2.out.size)) _ _ _ _ ?_
  clear C2
  try simp only [Act.put, tS1, tS2, tS3]
  refine tkA 8 (?_) ?_ (Below.refl _ _) ?_
  rotate_left
  · (intro w1 hS; go_simp; try with_reducible rfl)
  simp only [Act.put, tS1, tS2, tS3]
  refine tkA 9 (?_) ?_ (Below.refl _ _) ?_
  rotate_left
  · (intro w1 hS; go_simp; try with_reducible rfl)
  simp only [Act.put, tS1, tS2, tS3]
  refine tkA 11 (?_) ?_ (Below.refl _ _) ?_
  rotate_left
  · (intro w1 hS; go_simp; try with_reducible rfl)
  simp only [Act.put, tS1, tS2, tS3]
  refine tkA 10 (?_) ?_ (Below.refl _ _) ?_
  rotate_left
  · (intro w1 hS; go_simp; try with_reducible rfl)
  simp only [Act.put, tS1, tS2, tS3]
  refine tkA 12 (?_) ?_ (Below.refl _ _) ?_
  rotate_left
  · (intro w1 hS; go_simp; try with_reducible rfl)
  simp only [Act.put, tS1, tS2, tS3]
  refine wpAnyH_done (by kernel_rfl) ?_ _
  have hy := E2.out
  replace K := Lib.hid (K.out.trans (hy.mono K.out.size))
  replace H4 := Lib.hid (H4.out.below hy H4.out.lt)
  replace H6 := Lib.hid (H6.out.below hy H6.out.lt)
  replace HD := Lib.hid (HD.out.below hy HD.out.lt)
  replace HV := Lib.hid (HV.out.below hy HV.out.lt)
  replace RX1 := Lib.hid (RX1.out.below hy)
  clear hy E2
  obtain ⟨a3, k3, ey, -, -⟩ := rd_shape RX2.out
  rw [HML.out] at ey
  subst ey
  obtain ⟨b3, o3, rfl, -⟩ := RX2.out.cells (by omega)
  have hal := (Below.refl Y10x2.heap.size Y10x2).alloc (Nat.le_refl _) (.cells #[Value.slice (some ⟨g1, 0, none⟩) n k1, Value.slice (some ⟨b3, o3, none⟩) ml k3, Value.slice (some ⟨b, off + n, none⟩) L (cap - n)] 22)
  replace K := Lib.hid (K.out.trans (hal.mono K.out.size))
  replace H4 := Lib.hid (H4.out.below hal H4.out.lt)
  replace H6 := Lib.hid (H6.out.below hal H6.out.lt)
  replace HD := Lib.hid (HD.out.below hal HD.out.lt)
  replace HV := Lib.hid (HV.out.below hal HV.out.lt)
  replace RX1 := Lib.hid (RX1.out.below hal)
  replace RX2 := Lib.hid (RX2.out.below hal)
  have BB := Lib.hid (Blk.new Y10x2 22 #[Value.slice (some ⟨g1, 0, none⟩) n k1, Value.slice (some ⟨b3, o3, none⟩) ml k3, Value.slice (some ⟨b, off + n, none⟩) L (cap - n)])
  clear hal
  go_wp2_with fail
  have hzV9 : Hid ((Y10x2.alloc (.cells #[Value.slice (some ⟨g1, 0, none⟩) n k1, Value.slice (some ⟨b3, o3, none⟩) ml k3, Value.slice (some ⟨b, off + n, none⟩) L (cap - n)] 22)).heap.size = Y10x2.heap.size + 1) := by show _ = _; simp only [World.size_alloc]
  generalize (Y10x2.alloc (.cells #[Value.slice (some ⟨g1, 0, none⟩) n k1, Value.slice (some ⟨b3, o3, none⟩) ml k3, Value.slice (some ⟨b, off + n, none⟩) L (cap - n)] 22)) = V9 at *
  refine (concat_3 (Y10x2.heap.size) (some ⟨g1, 0, none⟩) (some ⟨b3, o3, none⟩) (some ⟨b, off + n, none⟩) n ml L k1 k3 (cap - n) E MM Q V9 BB.out RX1.out RX2.out (R2.out.below K.out) (by intro e; cases e) (by intro e; cases e) (by intro e; cases e) HWL.out HML.out HQL.out (by omega) (by omega)).mono ?_
  rintro e V10 ⟨x3, rfl, ox3, hy⟩
  replace K := Lib.hid (K.out.trans (hy.mono K.out.size))
  replace H4 := Lib.hid (H4.out.below hy H4.out.lt)
  replace H6 := Lib.hid (H6.out.below hy H6.out.lt)
  replace HD := Lib.hid (HD.out.below hy HD.out.lt)
  replace HV := Lib.hid (HV.out.below hy HV.out.lt)
  replace RX1 := Lib.hid (RX1.out.below hy)
  replace RX2 := Lib.hid (RX2.out.below hy)
  replace BB := Lib.hid (BB.out.below hy BB.out.lt)
  have OX := Lib.hid (Rd.own ox3)
  clear ox3
  clear hy
  go_wp2
  go_ret2
  exact ⟨_, rfl, OX.out, K.out⟩
set_option maxRecDepth 100000 in
set_option maxHeartbeats 8000000 in
theorem in_ok4 (x : Value) (zs A4 A6 D : List Nat) (v4 v6 : Bool) (w : World) (h : Rd w x (nus .u8 zs)) (hb : ∀ c ∈ zs, c < 256) (hz : zs.length ≤ 65535) (hA4 : A4.length = 16) (hA6 : A6.length = 16) (hD : D.length = 16) (hr : rr zs = 0) (h4 : v4 = false) (h6 : v6 = true) (hb4 : ∀ c ∈ A4, c < 256) (hb6 : ∀ c ∈ A6, c < 256) (hbD : ∀ c ∈ D, c < 256) (hv4 : vldA false A4 = true) (hvD : vldA false D = true) (hs : inS zs false ≤ 65535) :
    Calls Try.prog 11 #[x, adr v4 A4, adr v6 A6, adr false D] w fun e w' => ∃ y, e = .returned (.tuple #[y, .int .i64 0]) ∧ Rd w' y (nus .u8 (inn zs false A4 D)) ∧ Below w.heap.size w w' := by
  have K := Lib.hid (Below.refl w.heap.size w)
  have HR := Lib.hid h
  have CF := Lib.hid (fun W (h : Rd W x (nus .u8 zs)) => fread_any x zs W h hb (.inl hz))
  obtain ⟨a, cap, rfl, hlc, hlm⟩ := rd_shape h
  have YV : Hid ((vw zs).size = Array.size (ZcV : Array Value)) := vw_size zs
  have QV := Lib.hid (i72.trans (congrArg some (vw_size zs).symm))
  have AV := Lib.hid (vw_all zs)
  have s4 : (cellsA v4 A4).size = 17 := by rw [cellsA_size, hA4]
  have s6 : (cellsA v6 A6).size = 17 := by rw [cellsA_size, hA6]
  have sD : (cellsA false D).size = 17 := by rw [cellsA_size, hD]
  have Y46 : Hid ((cellsA v6 A6).size = (cellsA v4 A4).size) := s6.trans s4.symm
  have Q4 := Lib.hid (i24.trans (congrArg some s4.symm))
  have Q6 := Lib.hid (i24.trans (congrArg some s6.symm))
  have QD := Lib.hid (i24.trans (congrArg some sD.symm))
  have E6 := Lib.hid (cellsA_all v6 A6)
  have G4 := Lib.hid (cellsA_head v4 A4)
  have G6 := Lib.hid (cellsA_head v6 A6)
  have GD := Lib.hid (cellsA_head false D)
  subst h4 h6
  have hF := frame9 zs hr
  have hV := view9 zs hr
  have eE : nE zs = nN zs + fL (sixF zs) (pkt zs) := rfl
  have hn0 := hF.n0
  have hnl := hF.nl
  have hel := hF.eL
  have q1 := hF.hd0.low
  have q2 := hF.hd0.mid
  obtain ⟨L, hL⟩ : ∃ q, q = fL (sixF zs) (pkt zs) := ⟨_, rfl⟩
  obtain ⟨n, hn⟩ : ∃ q, q = nN zs := ⟨_, rfl⟩
  have en : (net zs).1 = n := hn.symm
  rw [← hL, ← hn] at eE
  rw [← hL] at q2
  rw [en] at hn0 hnl
  rw [eE] at hel
  have G0 := Lib.hid hV.c0
  have hc1 := hV.c1
  have hc3 := hV.c3
  rw [← hn] at hc1
  rw [eE] at hc3
  have G1 := Lib.hid hc1
  have G3 := Lib.hid hc3
  rw [hr] at CF
  have C26 := Lib.hid (fun W => valid_any false A4 hA4 hb4 W)
  have C27 := Lib.hid (fun W => valid_any true A6 hA6 hb6 W)
  have C28 := Lib.hid (fun W => valid_any false D hD hbD W)
  rw [hv4] at C26
  rw [show vldA true A6 = true from rfl] at C27
  rw [hvD] at C28
  have hpr : prN (sixF zs) < 256 := by unfold prN; split <;> decide
  have CH := Lib.hid (fun W => header_any false A4 D (prN (sixF zs)) L W hA4 hD hb4 hbD hpr)
  have CKD := Lib.hid (fun W => kindOf_any false W)
  have CPR := Lib.hid (fun W => protoOf_any (sixF zs) W)
  obtain ⟨nn, hnn⟩ : ∃ q, n = q + 2 := ⟨n - 2, by omega⟩
  obtain ⟨b, off, rfl, -⟩ := h.cells (by omega)
  have CW := Lib.hid (fun W h => with_yes (.slice (some ⟨b, off, none⟩) zs.length cap) zs (kN false) nn W h hb (by decide) hF.net0 (by omega) (by omega) (by omega))
  have hwl : (zs.take nn ++ bg 2 (kN false)).length = nn + 2 := by rw [List.length_append, List.length_take, bg_length]; omega
  rw [← hnn] at CW hwl
  have R2 := Lib.hid (show Rd w _ (nus .u8 ((zs.drop n).take L)) from Rd.sub h n L (by omega))
  have hql : ((zs.drop n).take L).length = L := by rw [List.length_take, List.length_drop]; omega
  have hcn : ¬ cap = n := by omega
  have hss : inS zs false = n + hH false + (n + L - n) := by unfold inS; rw [← hn, eE]
  rw [Nat.add_sub_cancel_left] at hss
  have hH40 : hH false ≤ 40 := by decide
  have hcap : L ≤ capB false := by
    have e : hH false + capB false = 65535 := by decide
    rw [hss] at hs
    omega
  rw [decide_eq_true hcap, show hdM false A4 D (prN (sixF zs)) L = headB false A4 D (prN (sixF zs)) L from if_pos hcap] at CH
  have hml := headB_len false A4 D (prN (sixF zs)) L hA4 hD
  have ein : inn zs false A4 D = (zs.take nn ++ bg 2 (kN false)) ++ (headB false A4 D (prN (sixF zs)) L ++ (zs.drop n).take L) := by
    unfold inn pkt
    rw [← hn, eE, Nat.add_sub_cancel_left, en, show n - 2 = nn by omega]
  rw [ein]
  clear ein hcap
  have hml2 : (headB false A4 D (prN (sixF zs)) L).length = hH false := hml
  clear hml
  rw [hss] at hs
  generalize headB false A4 D (prN (sixF zs)) L = MM at *
  have h20H : 20 ≤ hH false := by decide
  obtain ⟨ml, hmq⟩ : ∃ q, q = hH false := ⟨_, rfl⟩
  rw [← hmq] at hml2 h20H hs hH40
  have HML := Lib.hid hml2
  clear hml2 hmq
  unfold adr at CH C26 C27 C28 ⊢
  generalize (zs.take nn ++ bg 2 (kN false)) = E at *
  generalize (zs.drop n).take L = Q at *
  generalize prN (sixF zs) = pr at *
  generalize kN false = kk at *
  generalize sixF zs = six at *
  have HWL := Lib.hid hwl
  have HQL := Lib.hid hql
  generalize cellsA false A4 = C4 at *
  generalize cellsA true A6 = C6 at *
  generalize cellsA false D = CD at *
  generalize vw zs = VW at *
  have hlen : zs.length ≤ 65535 := hz
  generalize zs.length = len at *
  have hlow : 20 ≤ L := by omega
  clear h hb hz hA4 hA6 hD hr hb4 hb6 hbD hv4 hvD hF hV eE q1 q2 hL hn en hc1 hc3 hwl hql s4 s6 sD hpr hss hnn
  unfold maxLen at hlm
  go_enter Try.func11, Try.ntmps11
  have hal := (Below.refl w.heap.size w).alloc (Nat.le_refl _) (.cells C4 27)
  replace K := Lib.hid (K.out.trans (hal.mono K.out.size))
  have H4 := Lib.hid (Blk.new w 27 C4)
  clear hal
  have hal := (Below.refl (w.alloc (.cells C4 27)).heap.size (w.alloc (.cells C4 27))).alloc (Nat.le_refl _) (.cells C6 27)
  replace K := Lib.hid (K.out.trans (hal.mono K.out.size))
  replace H4 := Lib.hid (H4.out.below hal H4.out.lt)
  have H6q := Blk.new (w.alloc (.cells C4 27)) 27 C6
  simp only [World.size_alloc] at H6q
  have H6 := Lib.hid H6q
  clear H6q
  clear hal
  have hal := (Below.refl ((w.alloc (.cells C4 27)).alloc (.cells C6 27)).heap.size ((w.alloc (.cells C4 27)).alloc (.cells C6 27))).alloc (Nat.le_refl _) (.cells CD 27)
  replace K := Lib.hid (K.out.trans (hal.mono K.out.size))
  replace H4 := Lib.hid (H4.out.below hal H4.out.lt)
  replace H6 := Lib.hid (H6.out.below hal H6.out.lt)
  have HDq := Blk.new ((w.alloc (.cells C4 27)).alloc (.cells C6 27)) 27 CD
  simp only [World.size_alloc] at HDq
  have HD := Lib.hid HDq
  clear HDq
  clear hal
  go_wp2_with fail
  have hzV1 : Hid ((((w.alloc (.cells C4 27)).alloc (.cells C6 27)).alloc (.cells CD 27)).heap.size = w.heap.size + 1 + 1 + 1) := by show _ = _; simp only [World.size_alloc]
  generalize (((w.alloc (.cells C4 27)).alloc (.cells C6 27)).alloc (.cells CD 27)) = V1 at *
  refine (CF.out V1 (HR.out.below K.out)).mono ?_
  rintro e V2 ⟨rfl, hy⟩
  replace K := Lib.hid (K.out.trans (hy.mono K.out.size))
  replace H4 := Lib.hid (H4.out.below hy H4.out.lt)
  replace H6 := Lib.hid (H6.out.below hy H6.out.lt)
  replace HD := Lib.hid (HD.out.below hy HD.out.lt)
  clear hy
  go_wp2_with (((with_reducible refine wpList_blk_store (op := ⟨none, .store 50 (.tmp 10) (.tmp 18), _, _, _, _⟩) ?sg37 50 (.tmp 10) (.tmp 18) ?so37 (V2.heap.size) VW ?sx37 ?sy37 (Blk.new V2 50 ZcV) YV.out QV.out AV.out ?_); (case sg37 => rfl); (case so37 => rfl); (case sx37 => rfl); (case sy37 => rfl)))
  have qH4HV : w.heap.size < V2.heap.size := H4.out.lt
  have qH6HV : w.heap.size + 1 < V2.heap.size := H6.out.lt
  have qHDHV : w.heap.size + 2 < V2.heap.size := HD.out.lt
  intro V3 hA hF hB
  have hy := ((Below.refl V2.heap.size V2).alloc (Nat.le_refl _) (.cells ZcV 50)).trans (hB _ (Nat.le_refl _))
  replace K := Lib.hid (K.out.trans (hy.mono K.out.size))
  replace H4 := Lib.hid (H4.out.below hy H4.out.lt)
  replace H6 := Lib.hid (H6.out.below hy H6.out.lt)
  replace HD := Lib.hid (HD.out.below hy HD.out.lt)
  have HV := Lib.hid hA
  clear hA hF hB hy
  have L38 := (HD.out.cell 0).trans GD.out
  have L39 := (H4.out.cell 0).trans G4.out
  have L40 := (HD.out.cell 0).trans GD.out
  have L41 : (loadVar 27 ⟨w.heap.size, 0, none⟩).run Try.prog V3 = .ok (.agg C4) V3 := run_blk_load (P := Try.prog) 27 (w.heap.size) _ H4.out Try.underlying27 rfl Q4.out
  replace L41 := Lib.hid L41
  go_wp2_with (((with_reducible refine wpList_load_want (op := ⟨some 32, .load 27 (.tmp 5), _, _, _, _⟩) ?wg41 27 (.tmp 5) ?wo41 ⟨w.heap.size, 0, none⟩ ?wx41 (.agg C4) L41.out ?_); (case wg41 => rfl); (case wo41 => rfl); (case wx41 => rfl)))
  clear L38 L39 L40 L41
  refine (C26.out V3).mono ?_
  rintro e V4 ⟨rfl, hy⟩
  replace K := Lib.hid (K.out.trans (hy.mono K.out.size))
  replace H4 := Lib.hid (H4.out.below hy H4.out.lt)
  replace H6 := Lib.hid (H6.out.below hy H6.out.lt)
  replace HD := Lib.hid (HD.out.below hy HD.out.lt)
  replace HV := Lib.hid (HV.out.below hy HV.out.lt)
  clear hy
  have L42 : (loadVar 27 ⟨w.heap.size + 2, 0, none⟩).run Try.prog V4 = .ok (.agg CD) V4 := run_blk_load (P := Try.prog) 27 (w.heap.size + 2) _ HD.out Try.underlying27 rfl QD.out
  replace L42 := Lib.hid L42
  go_wp2_with (((with_reducible refine wpList_load_want (op := ⟨some 37, .load 27 (.tmp 7), _, _, _, _⟩) ?wg42 27 (.tmp 7) ?wo42 ⟨w.heap.size + 2, 0, none⟩ ?wx42 (.agg CD) L42.out ?_); (case wg42 => rfl); (case wo42 => rfl); (case wx42 => rfl)))
  clear L42
  refine (C28.out V4).mono ?_
  rintro e V5 ⟨rfl, hy⟩
  replace K := Lib.hid (K.out.trans (hy.mono K.out.size))
  replace H4 := Lib.hid (H4.out.below hy H4.out.lt)
  replace H6 := Lib.hid (H6.out.below hy H6.out.lt)
  replace HD := Lib.hid (HD.out.below hy HD.out.lt)
  replace HV := Lib.hid (HV.out.below hy HV.out.lt)
  clear hy
  have q : (n : Int) ≤ ((n + L : Nat) : Int) := (by omega)
  have q2 : ((n + L : Nat) : Int) ≤ (cap : Int) := (by omega)
  have L43 := (HV.out.cell 1).trans G1.out
  have L44 := (HV.out.cell 3).trans G3.out
  have L45 := (HD.out.cell 0).trans GD.out
  go_wp2_with fail
  clear L43 L44 L45
  refine (CKD.out V5).mono ?_
  rintro e V6 ⟨rfl, rfl⟩
  go_wp2_with fail
  refine (CW.out V5 (HR.out.below K.out)).mono ?_
  rintro e V7 ⟨x1, rfl, ox1, hy⟩
  replace K := Lib.hid (K.out.trans (hy.mono K.out.size))
  replace H4 := Lib.hid (H4.out.below hy H4.out.lt)
  replace H6 := Lib.hid (H6.out.below hy H6.out.lt)
  replace HD := Lib.hid (HD.out.below hy HD.out.lt)
  replace HV := Lib.hid (HV.out.below hy HV.out.lt)
  obtain ⟨g1, k1, rfl, -, -, -, -⟩ := own_at ox1 (by omega)
  have RX1 := Lib.hid (Rd.own ox1)
  clear ox1
  clear hy
  clear q q2
  go_wp2_with fail
  refine wp_region_held (S := (fun w' : World => Below (V7.heap.size) V7 w')) (by kernel_rfl) ?_
  change wpAnyH _ _ _ _ _ _ _ _ V7.drew
  have hy : Below V7.heap.size V7 V7.drew := (Below.refl _ _).drew
  have hE0 : Below (V7.heap.size) V7 V7.drew := (Below.refl _ _).drew
  clear hy
  generalize V7.drew = Y10x0 at hE0  ⊢
  have E0 := Lib.hid hE0
  clear hE0
  refine tkA 0 (.agg C4) ?_ E0.out ?_
  · (intro w1 hS; have hW := hS; exact exec_load 27 (.tmp 5) rfl _ rfl _ (run_blk_load (P := Try.prog) 27 (w.heap.size) _ (H4.out.below hW H4.out.lt) Try.underlying27 rfl Q4.out))
  simp only [Act.put, tS1, tS2, tS3]
  refine tkA 1 (.agg CD) ?_ E0.out ?_
  · (intro w1 hS; have hW := hS; exact exec_load 27 (.tmp 7) rfl _ rfl _ (run_blk_load (P := Try.prog) 27 (w.heap.size + 2) _ (HD.out.below hW HD.out.lt) Try.underlying27 rfl QD.out))
  simp only [Act.put, tS1, tS2, tS3]
  refine tkA 2 (?_) ?_ E0.out ?_
  rotate_left
  · (intro w1 hS; go_simp; try with_reducible rfl)
  simp only [Act.put, tS1, tS2, tS3]
  refine tkA 3 (?_) ?_ E0.out ?_
  rotate_left
  · (intro w1 hS; have hW := hS; have q := ((HV.out.below hW HV.out.lt).cell 0).trans G0.out; clear hW hS; go_simp; try with_reducible rfl)
  simp only [Act.put, tS1, tS2, tS3]
  refine tkA 5 (?_) ?_ E0.out ?_
  rotate_left
  · (intro w1 hS; go_simp; try with_reducible rfl)
  simp only [Act.put, tS1, tS2, tS3]
  refine tkA 6 (?_) ?_ E0.out ?_
  rotate_left
  · (intro w1 hS; go_simp; try with_reducible rfl)
  simp only [Act.put, tS1, tS2, tS3]
  refine tkO 4 (fun KK hK => ?_)
  go_simp
  refine (same_below (CPR.out Y10x0)).mono ?_
  rintro e Y10x1 ⟨rfl, hy⟩
  have E1 := Lib.hid (E0.out.trans (hy.mono E0.out.size))
  have C1 := Lib.hid E1.out
  clear hy E0
  refine hK.out _ _ C1.out (fun _ => ?_)
  clear hK KK
  refine wpAnyH_mono (S' := (fun w' : World => Below Y10x1.heap.size Y10x1 w')) (fun w1 h => C1.out.trans (h.mono C1.out.size)) _ _ _ _ ?_
  clear C1
  try simp only [Act.put, tS1, tS2, tS3]
  refine tkO 7 (fun KK hK => ?_)
  go_simp
  refine (CH.out Y10x1).mono ?_
  rintro e Y10x2 ⟨x2, rfl, rx2, hy⟩
  have E2 := Lib.hid (E1.out.trans (hy.mono E1.out.size))
  have C2 := Lib.hid hy
  have RX2 := Lib.hid (rx2)
  clear rx2
  clear hy E1
  refine hK.out _ _ C2.out (fun _ => ?_)
  clear hK KK
  refine wpAnyH_mono (S' := (fun w' : World => Below Y10x2.heap.size Y10x2 w')) (fun w1 h => C2.out.trans (h.mono C2.out.size)) _ _ _ _ ?_
  clear C2
  try simp only [Act.put, tS1, tS2, tS3]
  refine tkA 8 (?_) ?_ (Below.refl _ _) ?_
  rotate_left
  · (intro w1 hS; go_simp; try with_reducible rfl)
  simp only [Act.put, tS1, tS2, tS3]
  refine tkA 9 (?_) ?_ (Below.refl _ _) ?_
  rotate_left
  · (intro w1 hS; go_simp; try with_reducible rfl)
  simp only [Act.put, tS1, tS2, tS3]
  refine tkA 11 (?_) ?_ (Below.refl _ _) ?_
  rotate_left
  · (intro w1 hS; go_simp; try with_reducible rfl)
  simp only [Act.put, tS1, tS2, tS3]
  refine tkA 10 (?_) ?_ (Below.refl _ _) ?_
  rotate_left
  · (intro w1 hS; go_simp; try with_reducible rfl)
  simp only [Act.put, tS1, tS2, tS3]
  refine tkA 12 (?_) ?_ (Below.refl _ _) ?_
  rotate_left
  · (intro w1 hS; go_simp; try with_reducible rfl)
  simp only [Act.put, tS1, tS2, tS3]
  refine wpAnyH_done (by kernel_rfl) ?_ _
  have hy := E2.out
  replace K := Lib.hid (K.out.trans (hy.mono K.out.size))
  replace H4 := Lib.hid (H4.out.below hy H4.out.lt)
  replace H6 := Lib.hid (H6.out.below hy H6.out.lt)
  replace HD := Lib.hid (HD.out.below hy HD.out.lt)
  replace HV := Lib.hid (HV.out.below hy HV.out.lt)
  replace RX1 := Lib.hid (RX1.out.below hy)
  clear hy E2
  obtain ⟨a3, k3, ey, -, -⟩ := rd_shape RX2.out
  rw [HML.out] at ey
  subst ey
  obtain ⟨b3, o3, rfl, -⟩ := RX2.out.cells (by omega)
  have hal := (Below.refl Y10x2.heap.size Y10x2).alloc (Nat.le_refl _) (.cells #[Value.slice (some ⟨g1, 0, none⟩) n k1, Value.slice (some ⟨b3, o3, none⟩) ml k3, Value.slice (some ⟨b, off + n, none⟩) L (cap - n)] 22)
  replace K := Lib.hid (K.out.trans (hal.mono K.out.size))
  replace H4 := Lib.hid (H4.out.below hal H4.out.lt)
  replace H6 := Lib.hid (H6.out.below hal H6.out.lt)
  replace HD := Lib.hid (HD.out.below hal HD.out.lt)
  replace HV := Lib.hid (HV.out.below hal HV.out.lt)
  replace RX1 := Lib.hid (RX1.out.below hal)
  replace RX2 := Lib.hid (RX2.out.below hal)
  have BB := Lib.hid (Blk.new Y10x2 22 #[Value.slice (some ⟨g1, 0, none⟩) n k1, Value.slice (some ⟨b3, o3, none⟩) ml k3, Value.slice (some ⟨b, off + n, none⟩) L (cap - n)])
  clear hal
  go_wp2_with fail
  have hzV8 : Hid ((Y10x2.alloc (.cells #[Value.slice (some ⟨g1, 0, none⟩) n k1, Value.slice (some ⟨b3, o3, none⟩) ml k3, Value.slice (some ⟨b, off + n, none⟩) L (cap - n)] 22)).heap.size = Y10x2.heap.size + 1) := by show _ = _; simp only [World.size_alloc]
  generalize (Y10x2.alloc (.cells #[Value.slice (some ⟨g1, 0, none⟩) n k1, Value.slice (some ⟨b3, o3, none⟩) ml k3, Value.slice (some ⟨b, off + n, none⟩) L (cap - n)] 22)) = V8 at *
  refine (concat_3 (Y10x2.heap.size) (some ⟨g1, 0, none⟩) (some ⟨b3, o3, none⟩) (some ⟨b, off + n, none⟩) n ml L k1 k3 (cap - n) E MM Q V8 BB.out RX1.out RX2.out (R2.out.below K.out) (by intro e; cases e) (by intro e; cases e) (by intro e; cases e) HWL.out HML.out HQL.out (by omega) (by omega)).mono ?_
  rintro e V9 ⟨x3, rfl, ox3, hy⟩
  replace K := Lib.hid (K.out.trans (hy.mono K.out.size))
  replace H4 := Lib.hid (H4.out.below hy H4.out.lt)
  replace H6 := Lib.hid (H6.out.below hy H6.out.lt)
  replace HD := Lib.hid (HD.out.below hy HD.out.lt)
  replace HV := Lib.hid (HV.out.below hy HV.out.lt)
  replace RX1 := Lib.hid (RX1.out.below hy)
  replace RX2 := Lib.hid (RX2.out.below hy)
  replace BB := Lib.hid (BB.out.below hy BB.out.lt)
  have OX := Lib.hid (Rd.own ox3)
  clear ox3
  clear hy
  go_wp2
  go_ret2
  exact ⟨_, rfl, OX.out, K.out⟩
end Go.Proofs.Ytnpibdjfafpegaa
