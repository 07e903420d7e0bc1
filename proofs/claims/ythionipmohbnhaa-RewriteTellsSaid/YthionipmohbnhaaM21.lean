/- Texts that the walks of this seat lean on, put together. -/
import Derived.Test.YthionipmohbnhaaTk
import Derived.Test.YthionipmohbnhaaM02
import Derived.Test.YthionipmohbnhaaM14
import Derived.Test.YthionipmohbnhaaM19
import Derived.Test.YthionipmohbnhaaM20
namespace Go.Proofs.Ythionipmohbnhaa
open Go.RowKit
theorem rvalid_any (v : Bool) (D : List Nat) (hl : D.length = 16) (w : World) : Calls Try.prog 23 #[adr v D] w fun e w' => e = .returned (.bool (vldA v D)) ∧ Below w.heap.size w w' := by
  obtain ⟨b0, b1, b2, b3, b4, b5, b6, b7, b8, b9, b10, b11, b12, b13, b14, b15, rfl⟩ := list16 D hl
  exact ref_valid v b0 b1 b2 b3 b4 b5 b6 b7 b8 b9 b10 b11 b12 b13 b14 b15 w
theorem rdX_any (six : Bool) (v : Value) (zs D : List Nat) (w : World) (hr : Rd w v (nus .u8 zs)) (hb : ∀ c ∈ zs, c < 256) (h : fhr six zs = 0) (hz : zs.length ≤ 3000) (hD : D.length = 16) (hbD : ∀ c ∈ D, c < 256) :
    Calls Try.prog (if six then 25 else 26) #[v, adr six D] w fun e w' => ∃ x, e = .returned x ∧ w'.ownsRow w.heap.size 5 1 x zs.length (nus .u8 (dsX six zs D)) ∧ Below w.heap.size w w' := by
  cases six with
  | true => exact rdest6_yes v zs D w hr hb h hz hD
  | false => exact rdest4_yes v zs D w hr hb h hz hD hbD
set_option maxRecDepth 100000 in
set_option maxHeartbeats 4000000 in
theorem rto_any (v : Value) (zs : List Nat) (six : Bool) (D : List Nat) (tp : Nat) (w : World) (hr : Rd w v (nus .u8 zs)) (hb : ∀ c ∈ zs, c < 256) (hz : zs.length ≤ 3000) (hD : D.length = 16) (hbD : ∀ c ∈ D, c < 256) (ht : tp < 65536) :
    Calls Try.prog 9 #[v, .agg (dcells (cellsA six D) tp)] w fun e w' => ∃ x, e = .returned (.tuple #[x, .bool (ok9 zs six D)]) ∧ Rd w' x (nus .u8 (tof zs six D tp)) ∧ Below w.heap.size w w' := by
  have CF := Lib.hid (fun W (h : Rd W v (nus .u8 zs)) => rframe_any v zs W h hb hz)
  have YVW : Hid ((vw zs).size = Array.size (ZcV : Array Value)) := vw_size zs
  have QVW := Lib.hid (i72.trans (congrArg some (vw_size zs).symm))
  have AVW := Lib.hid (vw_all zs)
  have CV := Lib.hid (fun W => rvalid_any six D hD W)
  have K := Lib.hid (Below.refl w.heap.size w)
  have HR := Lib.hid hr
  have sD : (cellsA six D).size = 17 := by rw [cellsA_size, hD]
  obtain ⟨d17, dpart⟩ := dip_get (cellsA six D) tp sD
  have H0 := Lib.hid (dip_v6 six D tp)
  have ZDP := Lib.hid (i45.trans (congrArg some (dcells_size _ tp sD).symm))
  have hok : ok9 zs six D = (decide (rr zs = 0) && ((six == sixF zs) && vldA six D)) := rfl
  have hof : tof zs six D tp = if ok9 zs six D = true then to9 zs D tp else [] := rfl
  obtain ⟨a, cap, rfl, hlc, hlm⟩ := rd_shape hr
  by_cases h0 : rr zs = 0
  case neg =>
    have hgf : ok9 zs six D = false := by rw [hok, decide_eq_false h0]; rfl
    rw [hof, hgf, if_neg (by decide)]
    have g0 : ((rr zs : Int) == 0) = false := by rw [beq_eq_false_iff_ne]; omega
    have g1 : ((rr zs : Int) != 0) = true := by rw [bne_iff_ne]; omega
    have g2 : (rr zs == 0) = false := by rw [beq_eq_false_iff_ne]; omega
    clear hr hb hgf h0 hok hof d17 dpart CV
    generalize rr zs = r at *
    generalize vw zs = VW at *
    generalize zs.length = n at *
    generalize dcells (cellsA six D) tp = DP at *
    go_enter Try.func9, Try.ntmps9
    have hal := (Below.refl w.heap.size w).alloc (Nat.le_refl _) (.cells DP 28)
    replace K := Lib.hid (K.out.trans (hal.mono K.out.size))
    have HD := Lib.hid (Blk.new w 28 DP)
    clear hal
    go_upto_region 1 with fail
    have hzV1 : Hid ((w.alloc (.cells DP 28)).heap.size = w.heap.size + 1) := by show _ = _; simp only [World.size_alloc]
    generalize (w.alloc (.cells DP 28)) = V1 at *
    go_wp2_with fail
    refine (CF.out _ (HR.out.below K.out)).mono ?_
    rintro e V2 ⟨rfl, hy⟩
    replace K := Lib.hid (K.out.trans (hy.mono K.out.size))
    replace HD := Lib.hid (HD.out.below hy HD.out.lt)
    clear hy
    go_wp2_with (((with_reducible refine wpList_blk_store (op := ⟨none, .store 42 (.tmp 6) (.tmp 16), _, _, _, _⟩) ?sg1 42 (.tmp 6) (.tmp 16) ?so1 (V2.heap.size) VW ?sx1 ?sy1 (Blk.new V2 42 ZcV) YVW.out QVW.out AVW.out ?_); (case sg1 => rfl); (case so1 => rfl); (case sx1 => rfl); (case sy1 => rfl)))
    have qHDHV : w.heap.size < V2.heap.size := HD.out.lt
    intro V3 hA hF hB
    have hy := ((Below.refl V2.heap.size V2).alloc (Nat.le_refl _) (.cells ZcV 42)).trans (hB _ (Nat.le_refl _))
    replace K := Lib.hid (K.out.trans (hy.mono K.out.size))
    replace HD := Lib.hid (HD.out.below hy HD.out.lt)
    have HV := Lib.hid hA
    clear hA hF hB hy
    go_wp2
    go_ret2
    exact ⟨_, rfl, rd_nil _ _, K.out⟩
  have hV := view9 zs h0
  have c0 := hV.c0
  have G0 := Lib.hid c0
  rw [h0] at CF
  by_cases h1 : six = sixF zs
  case neg =>
    have hgf : ok9 zs six D = false := by
      rw [hok, show (six == sixF zs) = false from by rw [beq_eq_false_iff_ne]; exact h1]; simp
    rw [hof, hgf, if_neg (by decide)]
    have e1 : sixF zs = !six := by cases six <;> cases q : sixF zs <;> simp_all
    rw [e1] at G0
    have e2 : (six != !six) = true := by cases six <;> rfl
    have e3 : (six == !six) = false := by cases six <;> rfl
    clear hr hb hgf h0 hok hof d17 dpart CV h1 e1 c0 hV
    generalize vw zs = VW at *
    generalize zs.length = n at *
    generalize dcells (cellsA six D) tp = DP at *
    go_enter Try.func9, Try.ntmps9
    have hal := (Below.refl w.heap.size w).alloc (Nat.le_refl _) (.cells DP 28)
    replace K := Lib.hid (K.out.trans (hal.mono K.out.size))
    have HD := Lib.hid (Blk.new w 28 DP)
    clear hal
    go_upto_region 1 with fail
    have hzV1 : Hid ((w.alloc (.cells DP 28)).heap.size = w.heap.size + 1) := by show _ = _; simp only [World.size_alloc]
    generalize (w.alloc (.cells DP 28)) = V1 at *
    go_wp2_with fail
    refine (CF.out _ (HR.out.below K.out)).mono ?_
    rintro e V2 ⟨rfl, hy⟩
    replace K := Lib.hid (K.out.trans (hy.mono K.out.size))
    replace HD := Lib.hid (HD.out.below hy HD.out.lt)
    clear hy
    go_wp2_with (((with_reducible refine wpList_blk_store (op := ⟨none, .store 42 (.tmp 6) (.tmp 16), _, _, _, _⟩) ?sg2 42 (.tmp 6) (.tmp 16) ?so2 (V2.heap.size) VW ?sx2 ?sy2 (Blk.new V2 42 ZcV) YVW.out QVW.out AVW.out ?_); (case sg2 => rfl); (case so2 => rfl); (case sx2 => rfl); (case sy2 => rfl)))
    have qHDHV : w.heap.size < V2.heap.size := HD.out.lt
    intro V3 hA hF hB
    have hy := ((Below.refl V2.heap.size V2).alloc (Nat.le_refl _) (.cells ZcV 42)).trans (hB _ (Nat.le_refl _))
    replace K := Lib.hid (K.out.trans (hy.mono K.out.size))
    replace HD := Lib.hid (HD.out.below hy HD.out.lt)
    have HV := Lib.hid hA
    clear hA hF hB hy
    have L3 := (HD.out.cell 0).trans H0.out
    have L4 := (HV.out.cell 0).trans G0.out
    go_wp2
    go_ret2
    exact ⟨_, rfl, rd_nil _ _, K.out⟩
  subst h1
  by_cases h2 : vldA (sixF zs) D = true
  case neg =>
    have hgf : ok9 zs (sixF zs) D = false := by
      rw [hok, Bool.eq_false_iff.2 h2]; simp
    rw [hof, hgf, if_neg (by decide)]
    rw [Bool.eq_false_iff.2 h2] at CV
    have e2 : (sixF zs != sixF zs) = false := by simp
    have e3 : (sixF zs == sixF zs) = true := by simp
    have PD := Lib.hid dpart
    have ID := Lib.hid (i24.trans (congrArg some (show (17 : Nat) = (cellsA (sixF zs) D).toList.length by simp [sD])))
    unfold adr at CV
    clear hr hb hgf h0 hok hof d17 dpart c0 hV h2 sD
    generalize sixF zs = six at *
    generalize vw zs = VW at *
    generalize zs.length = n at *
    generalize dcells (cellsA six D) tp = DP at *
    generalize cellsA six D = DA at *
    go_enter Try.func9, Try.ntmps9
    have hal := (Below.refl w.heap.size w).alloc (Nat.le_refl _) (.cells DP 28)
    replace K := Lib.hid (K.out.trans (hal.mono K.out.size))
    have HD := Lib.hid (Blk.new w 28 DP)
    clear hal
    go_upto_region 1 with fail
    have hzV1 : Hid ((w.alloc (.cells DP 28)).heap.size = w.heap.size + 1) := by show _ = _; simp only [World.size_alloc]
    generalize (w.alloc (.cells DP 28)) = V1 at *
    go_wp2_with fail
    refine (CF.out _ (HR.out.below K.out)).mono ?_
    rintro e V2 ⟨rfl, hy⟩
    replace K := Lib.hid (K.out.trans (hy.mono K.out.size))
    replace HD := Lib.hid (HD.out.below hy HD.out.lt)
    clear hy
    go_wp2_with (((with_reducible refine wpList_blk_store (op := ⟨none, .store 42 (.tmp 6) (.tmp 16), _, _, _, _⟩) ?sg5 42 (.tmp 6) (.tmp 16) ?so5 (V2.heap.size) VW ?sx5 ?sy5 (Blk.new V2 42 ZcV) YVW.out QVW.out AVW.out ?_); (case sg5 => rfl); (case so5 => rfl); (case sx5 => rfl); (case sy5 => rfl)))
    have qHDHV : w.heap.size < V2.heap.size := HD.out.lt
    intro V3 hA hF hB
    have hy := ((Below.refl V2.heap.size V2).alloc (Nat.le_refl _) (.cells ZcV 42)).trans (hB _ (Nat.le_refl _))
    replace K := Lib.hid (K.out.trans (hy.mono K.out.size))
    replace HD := Lib.hid (HD.out.below hy HD.out.lt)
    have HV := Lib.hid hA
    clear hA hF hB hy
    have L6 := (HD.out.cell 0).trans H0.out
    have L7 := (HV.out.cell 0).trans G0.out
    have L8 : (loadVar 25 ⟨w.heap.size, 0, none⟩).run Try.prog V3 = .ok (.agg DA) V3 := by have h := run_part_load (P := Try.prog) 25 0 DA.toList _ HD.out PD.out Try.underlying25 rfl ID.out; rwa [Array.toArray_toList] at h
    replace L8 := Lib.hid L8
    go_wp2_with (((with_reducible refine wpList_load_want (op := ⟨some 30, .load 25 (.tmp 29), _, _, _, _⟩) ?wg8 25 (.tmp 29) ?wo8 ⟨w.heap.size, 0, none⟩ ?wx8 (.agg DA) L8.out ?_); (case wg8 => rfl); (case wo8 => rfl); (case wx8 => rfl)))
    clear L6 L7 L8
    refine (CV.out _).mono ?_
    rintro e V4 ⟨rfl, hy⟩
    replace K := Lib.hid (K.out.trans (hy.mono K.out.size))
    replace HD := Lib.hid (HD.out.below hy HD.out.lt)
    replace HV := Lib.hid (HV.out.below hy HV.out.lt)
    clear hy
    go_wp2
    go_ret2
    exact ⟨_, rfl, rd_nil _ _, K.out⟩
  have hgf : ok9 zs (sixF zs) D = true := by
    rw [hok, decide_eq_true h0, h2]; simp
  rw [hof, hgf, if_pos rfl]
  rw [h2] at CV
  have hF := frame9 zs h0
  have hP := sg9_ported zs D tp hb h0 hD ht
  have hG := gone4 (sixF zs) (pkt zs) D (pkt_lt zs hb) hF.hr hD h2
  have hov := to9_ov zs D tp hb h0 hD h2 ht
  have q1 := hF.hd0.low
  have q2 := hF.hd0.mid
  have q3 := hF.hd0.high
  have q4 := hF.pl
  have q5 := hF.nl
  have q6 := hF.n0
  obtain ⟨b, off, rfl, -⟩ := hr.cells (by omega)
  obtain ⟨n, hn⟩ : ∃ x, x = nN zs := ⟨_, rfl⟩
  obtain ⟨sg, hsg⟩ : ∃ x, x = nS zs := ⟨_, rfl⟩
  obtain ⟨en, hen⟩ : ∃ x, x = nE zs := ⟨_, rfl⟩
  have eN : n = (net zs).1 := hn
  have eS : sg = n + fS (sixF zs) (pkt zs) := by rw [hsg, hn]; rfl
  have eE : en = n + fL (sixF zs) (pkt zs) := by rw [hen, hn]; rfl
  have h8 : 8 ≤ (sgm zs).length := by rcases fs_yes _ _ hF.fs0 with ⟨-, q, -⟩ | ⟨-, q, -⟩ <;> omega
  have hsl : (sgm zs).length = en - sg := by rw [hF.sl]; omega
  have hx2 : (sg9 zs D tp).length = en - sg := hP.len.trans hsl
  have hpl : (pkt zs).length = zs.length - n := by rw [q4, eN]
  have hxl : (dsX (sixF zs) (pkt zs) D).length = zs.length - n := hG.len.trans hpl
  have hr1 := hr.front n (by omega)
  have hr2 := subP hr n (zs.length - n) (by omega)
  rw [List.take_of_length_le (by rw [List.length_drop]; omega)] at hr2
  have hr3 := hr.sub sg (en - sg) (by omega)
  have esg : (zs.drop sg).take (en - sg) = sgm zs := by
    have e1 : fL (sixF zs) (pkt zs) - fS (sixF zs) (pkt zs) = en - sg := by omega
    rw [← e1, hsg]; rfl
  rw [esg] at hr3
  have hy1 : (zs.take n).length = n := by rw [List.length_take]; omega
  obtain ⟨P2, hP2⟩ : ∃ x, x = (if cap = n then some (⟨b, off, none⟩ : Addr) else some ⟨b, off + n, none⟩) := ⟨_, rfl⟩
  rw [← hP2] at hr2
  rw [show zs.drop n = pkt zs from by rw [hn]; rfl] at hr2
  have c1 := hV.c1
  have c2 := hV.c2
  have c3 := hV.c3
  have c4 := hV.c4
  have c40 := hV.c40
  have PF := Lib.hid hV.pD
  rw [← hn] at c1 hov
  rw [← hsg] at c2 hov
  rw [← hen] at c3
  have hlF := lB_len (sixF zs) (pkt zs) hF.hr
  have hcp := (fun W z tq (ht : tq < 65536) (h : Rd W z (nus .u8 (sgm zs))) => rport_any (fP (sixF zs) (pkt zs)) z (sgm zs) tq (sixF zs) (lB (sixF zs) (pkt zs)) (sixF zs) D W h (sgm_lt zs hb) (by omega) ht hlF hD (lB_lt _ _ (pkt_lt zs hb)) hbD)
  have hcq := (fun W z (h : Rd W z (nus .u8 (sgm zs))) => hcp W z (pt9 zs tp) (pt9_lt zs tp hb ht) h)
  rw [show pOut (fP (sixF zs) (pkt zs)) (sgm zs) (pt9 zs tp) (sixF zs) (lB (sixF zs) (pkt zs)) (sixF zs) D = sg9 zs D tp from if_pos ⟨hF.fs0, rfl⟩] at hcq
  have hcd := (fun W z (h : Rd W z (nus .u8 (pkt zs))) => rdX_any (sixF zs) z (pkt zs) D W h (pkt_lt zs hb) hF.hr (by omega) hD hbD)
  rw [hpl] at hcd
  have hpt : pt9 zs tp = if tp = 0 then u2 (sgm zs) 2 else tp := rfl
  have hu2 : u2 (sgm zs) 2 < 65536 := u2_lt _ 2 (sgm_lt zs hb)
  have sF : (cellsA (sixF zs) (lB (sixF zs) (pkt zs))).size = 17 := by rw [cellsA_size, hlF]
  have hse : sg < en := by omega
  have hel : en ≤ zs.length := by omega
  have hns : n ≤ sg := by omega
  have HOV := Lib.hid hov
  have HO2 := Lib.hid (show ∀ k, k ≤ en - sg → (ov (zs.take n ++ dsX (sixF zs) (pkt zs) D) ((sg9 zs D tp).take k) sg).length = zs.length from fun k hk => by
    rw [ov_length _ _ _ (by rw [List.length_take, List.length_append, hx2, hy1, hxl]; omega), List.length_append, hy1, hxl]; omega)
  have HST := Lib.hid (show ∀ k, k < en - sg → (ov (zs.take n ++ dsX (sixF zs) (pkt zs) D) ((sg9 zs D tp).take k) sg).set (sg + k) ((sg9 zs D tp).getD k 0) = ov (zs.take n ++ dsX (sixF zs) (pkt zs) D) ((sg9 zs D tp).take (k + 1)) sg from fun k hk => ov_step _ _ _ _ (by rw [List.length_append, hx2, hy1, hxl]; omega) (by rw [hx2]; exact hk))
  have HAL := Lib.hid (show (zs.take n ++ dsX (sixF zs) (pkt zs) D).length = zs.length from by rw [List.length_append, hy1, hxl]; omega)
  unfold adr at CV hcq hcd
  have G1 := Lib.hid c1
  have G2 := Lib.hid c2
  have G3 := Lib.hid c3
  have G4 := Lib.hid c4
  have G40 := Lib.hid c40
  have H17 := Lib.hid d17
  have CP := Lib.hid hcq
  have CD := Lib.hid hcd
  have R1 := Lib.hid hr1
  have R2 := Lib.hid hr2
  have R3 := Lib.hid hr3
  have HY1 := Lib.hid hy1
  have HXL := Lib.hid hxl
  have HX2 := Lib.hid hx2
  have HP2 := Lib.hid hP2
  have PD := Lib.hid dpart
  have ID := Lib.hid (i24.trans (congrArg some (show (17 : Nat) = (cellsA (sixF zs) D).toList.length by simp [sD])))
  have IF := Lib.hid (i24.trans (congrArg some (show (17 : Nat) = (cellsA (sixF zs) (lB (sixF zs) (pkt zs))).toList.length by simp [sF])))
  have e2 : (sixF zs != sixF zs) = false := by simp
  have e3 : (sixF zs == sixF zs) = true := by simp
  have hn0 : 0 < n := by omega
  have hnl : n < zs.length := by omega
  unfold maxLen at hlm
  clear hr hb hgf h0 hok hof d17 dpart c0 hV h2 sD hF hP hG q1 q2 q3 q4 q5 q6 hn hsg hen eN eS eE hx2 hr1 hr2 hr3 hy1 hP2 c1 c2 c3 c4 c40 hcp hcq hcd hD hbD hov esg hsl hpl hxl h8 hlF sF
  generalize cellsA (sixF zs) (lB (sixF zs) (pkt zs)) = CFF at *
  generalize dsX (sixF zs) (pkt zs) D = X1 at *
  generalize sg9 zs D tp = X2 at *
  generalize to9 zs D tp = TO at *
  generalize zs.take n = X0 at *
  generalize fP (sixF zs) (pkt zs) = p at *
  generalize u2 (sgm zs) 2 = dp at *
  generalize pt9 zs tp = pt at *
  generalize sixF zs = six at *
  generalize vw zs = VW at *
  generalize zs.length = ln at *
  generalize dcells (cellsA six D) tp = DP at *
  generalize cellsA six D = DA at *
  have HPT := Lib.hid hpt
  clear hpt
  obtain ⟨m, rfl⟩ : ∃ m, ln = n + m := ⟨ln - n, by omega⟩
  rw [Nat.add_sub_cancel_left] at R2 CD HXL
  have t3 : IntKind.i64.wrap ((tp : Int)) = (tp : Int) := by rw [IntKind.wrap_i64]; omega
  have t4 : IntKind.i64.wrap ((dp : Int)) = (dp : Int) := by rw [IntKind.wrap_i64]; omega
  go_enter Try.func9, Try.ntmps9
  have hal := (Below.refl w.heap.size w).alloc (Nat.le_refl _) (.cells DP 28)
  replace K := Lib.hid (K.out.trans (hal.mono K.out.size))
  have HD := Lib.hid (Blk.new w 28 DP)
  clear hal
  go_upto_region 1 with fail
  have hzV1 : Hid ((w.alloc (.cells DP 28)).heap.size = w.heap.size + 1) := by show _ = _; simp only [World.size_alloc]
  generalize (w.alloc (.cells DP 28)) = V1 at *
  go_wp2_with fail
  refine (CF.out _ (HR.out.below K.out)).mono ?_
  rintro e V2 ⟨rfl, hy⟩
  replace K := Lib.hid (K.out.trans (hy.mono K.out.size))
  replace HD := Lib.hid (HD.out.below hy HD.out.lt)
  clear hy
  go_wp2_with (((with_reducible refine wpList_blk_store (op := ⟨none, .store 42 (.tmp 6) (.tmp 16), _, _, _, _⟩) ?sg9 42 (.tmp 6) (.tmp 16) ?so9 (V2.heap.size) VW ?sx9 ?sy9 (Blk.new V2 42 ZcV) YVW.out QVW.out AVW.out ?_); (case sg9 => rfl); (case so9 => rfl); (case sx9 => rfl); (case sy9 => rfl)))
  have qHDHV : w.heap.size < V2.heap.size := HD.out.lt
  intro V3 hA hF hB
  have hy := ((Below.refl V2.heap.size V2).alloc (Nat.le_refl _) (.cells ZcV 42)).trans (hB _ (Nat.le_refl _))
  replace K := Lib.hid (K.out.trans (hy.mono K.out.size))
  replace HD := Lib.hid (HD.out.below hy HD.out.lt)
  have HV := Lib.hid hA
  clear hA hF hB hy
  have L10 := (HD.out.cell 0).trans H0.out
  have L11 := (HV.out.cell 0).trans G0.out
  have L12 : (loadVar 25 ⟨w.heap.size, 0, none⟩).run Try.prog V3 = .ok (.agg DA) V3 := by have h := run_part_load (P := Try.prog) 25 0 DA.toList _ HD.out PD.out Try.underlying25 rfl ID.out; rwa [Array.toArray_toList] at h
  replace L12 := Lib.hid L12
  go_wp2_with (((with_reducible refine wpList_load_want (op := ⟨some 30, .load 25 (.tmp 29), _, _, _, _⟩) ?wg12 25 (.tmp 29) ?wo12 ⟨w.heap.size, 0, none⟩ ?wx12 (.agg DA) L12.out ?_); (case wg12 => rfl); (case wo12 => rfl); (case wx12 => rfl)))
  clear L10 L11 L12
  refine (CV.out _).mono ?_
  rintro e V4 ⟨rfl, hy⟩
  replace K := Lib.hid (K.out.trans (hy.mono K.out.size))
  replace HD := Lib.hid (HD.out.below hy HD.out.lt)
  replace HV := Lib.hid (HV.out.below hy HV.out.lt)
  clear hy
  have L13 := (HD.out.cell 17).trans H17.out
  go_upto_if 38 with fail
  go_cut [8] (fun x wx => x = .int .i64 (pt : Int) ∧ wx = V4)
  case first =>
    by_cases htp : tp = 0
    · subst htp
      have hpt := HPT.out
      rw [if_pos rfl] at hpt
      have HPT := Lib.hid hpt
      clear hpt
      have fc := (HV.out.cell 40).trans G40.out
      go_wp2_with fail
      go_meet
      exact ⟨by rw [HPT.out]; simp, rfl⟩
    · have hpt := HPT.out
      rw [if_neg htp] at hpt
      have HPT := Lib.hid hpt
      clear hpt
      have t1 : ((tp : Int) == 0) = false := by rw [beq_eq_false_iff_ne]; omega
      have t2 : (tp == 0) = false := by rw [beq_eq_false_iff_ne]; omega
      go_wp2_with fail
      go_meet
      exact ⟨by rw [HPT.out], rfl⟩
  case rest =>
    obtain ⟨rfl, rfl⟩ := hcut
    clear HPT t3 t4
    go_wp2_with fail
    clear L13
    refine wp_region_held (S := (fun w' : World => Below (wc.heap.size) wc w')) (by kernel_rfl) ?_
    change wpAnyH _ _ _ _ _ _ _ _ wc.drew
    have hy : Below wc.heap.size wc wc.drew := (Below.refl _ _).drew
    have hE0 : Below (wc.heap.size) wc wc.drew := (Below.refl _ _).drew
    clear hy
    generalize wc.drew = Y7x0 at hE0  ⊢
    have E0 := Lib.hid hE0
    clear hE0
    refine tkA 0 (?_) ?_ E0.out ?_
    rotate_left
    · (intro w1 hS; go_simp; try with_reducible rfl)
    simp only [Act.put, tS1, tS2, tS3]
    refine tkA 1 (?_) ?_ E0.out ?_
    rotate_left
    · (intro w1 hS; go_simp; try with_reducible rfl)
    simp only [Act.put, tS1, tS2, tS3]
    refine tkA 2 (?_) ?_ E0.out ?_
    rotate_left
    · (intro w1 hS; have hW := hS; have q := ((HV.out.below hW HV.out.lt).cell 4).trans G4.out; clear hW hS; go_simp; try with_reducible rfl)
    simp only [Act.put, tS1, tS2, tS3]
    refine tkA 3 (?_) ?_ E0.out ?_
    rotate_left
    · (intro w1 hS; go_simp; try with_reducible rfl)
    simp only [Act.put, tS1, tS2, tS3]
    refine tkA 4 (?_) ?_ E0.out ?_
    rotate_left
    · (intro w1 hS; go_simp; try with_reducible rfl)
    simp only [Act.put, tS1, tS2, tS3]
    refine tkA 5 (?_) ?_ E0.out ?_
    rotate_left
    · (intro w1 hS; have hW := hS; have q := ((HV.out.below hW HV.out.lt).cell 2).trans G2.out; clear hW hS; go_simp; try with_reducible rfl)
    simp only [Act.put, tS1, tS2, tS3]
    refine tkA 6 (?_) ?_ E0.out ?_
    rotate_left
    · (intro w1 hS; go_simp; try with_reducible rfl)
    simp only [Act.put, tS1, tS2, tS3]
    refine tkA 7 (?_) ?_ E0.out ?_
    rotate_left
    · (intro w1 hS; have hW := hS; have q := ((HV.out.below hW HV.out.lt).cell 3).trans G3.out; clear hW hS; go_simp; try with_reducible rfl)
    simp only [Act.put, tS1, tS2, tS3]
    refine tkA 8 (?_) ?_ E0.out ?_
    rotate_left
    · (intro w1 hS; have hW := hS; have q : (sg : Int) ≤ (en : Int) := (by omega); have q3 : (en : Int) ≤ (cap : Int) := (by omega); have q4 : ¬ cap = sg := (by omega); clear hW hS; go_simp; try with_reducible rfl)
    simp only [Act.put, tS1, tS2, tS3]
    refine tkA 9 (?_) ?_ E0.out ?_
    rotate_left
    · (intro w1 hS; go_simp; try with_reducible rfl)
    simp only [Act.put, tS1, tS2, tS3]
    refine tkA 10 (?_) ?_ E0.out ?_
    rotate_left
    · (intro w1 hS; go_simp; try with_reducible rfl)
    simp only [Act.put, tS1, tS2, tS3]
    refine tkA 11 (?_) ?_ E0.out ?_
    rotate_left
    · (intro w1 hS; go_simp; try with_reducible rfl)
    simp only [Act.put, tS1, tS2, tS3]
    refine tkA 12 (.agg CFF) ?_ E0.out ?_
    · (intro w1 hS; have hW := hS; exact exec_load 25 (.tmp 54) rfl _ rfl _ (by have h := run_part_load (P := Try.prog) 25 22 CFF.toList _ (HV.out.below hW HV.out.lt) PF.out Try.underlying25 rfl IF.out; rwa [Array.toArray_toList] at h))
    simp only [Act.put, tS1, tS2, tS3]
    refine tkA 13 (?_) ?_ E0.out ?_
    rotate_left
    · (intro w1 hS; go_simp; try with_reducible rfl)
    simp only [Act.put, tS1, tS2, tS3]
    refine tkA 14 (.agg DA) ?_ E0.out ?_
    · (intro w1 hS; have hW := hS; exact exec_load 25 (.tmp 56) rfl _ rfl _ (by have h := run_part_load (P := Try.prog) 25 0 DA.toList _ (HD.out.below hW HD.out.lt) PD.out Try.underlying25 rfl ID.out; rwa [Array.toArray_toList] at h))
    simp only [Act.put, tS1, tS2, tS3]
    refine tkO 15 (fun KK hK => ?_)
    go_simp
    refine (CP.out _ _ (R3.out.below (K.out.trans (E0.out.mono K.out.size)))).mono ?_
    rintro e Y7x1 ⟨z, rfl, rz, hy⟩
    have E1 := Lib.hid (E0.out.trans (hy.mono E0.out.size))
    have C1 := Lib.hid E1.out
    have Z := Lib.hid (rz)
    clear rz
    clear hy E0
    refine hK.out _ _ C1.out (fun _ => ?_)
    clear hK KK
    refine wpAnyH_mono (S' := (fun w' : World => Below Y7x1.heap.size Y7x1 w')) (fun w1 h => C1.out.trans (h.mono C1.out.size)) _ _ _ _ ?_
    clear C1
    try simp only [Act.put, tS1, tS2, tS3]
    refine tkA 16 (?_) ?_ (Below.refl _ _) ?_
    rotate_left
    · (intro w1 hS; go_simp; try with_reducible rfl)
    simp only [Act.put, tS1, tS2, tS3]
    refine wpAnyH_done (by kernel_rfl) ?_ _
    have hy := E1.out
    replace K := Lib.hid (K.out.trans (hy.mono K.out.size))
    replace HD := Lib.hid (HD.out.below hy HD.out.lt)
    replace HV := Lib.hid (HV.out.below hy HV.out.lt)
    clear hy E1
    obtain ⟨az, kz, ez, -, -⟩ := rd_shape Z.out
    rw [HX2.out] at ez
    subst ez
    clear CP R3
    have f0 := (HV.out.cell 0).trans G0.out
    go_upto_if 60 with fail
    clear f0
    go_cut [10] (fun v wx => wx.ownsRow Y7x1.heap.size 5 1 v m (nus .u8 X1) ∧ Below Y7x1.heap.size Y7x1 wx)
    case first =>
      have CD1 := CD.out
      cases six with
      | true =>
        simp only [if_true] at CD1
        have CD2 := Lib.hid CD1
        clear CD1 CD
        have KV := Lib.hid (Below.refl Y7x1.heap.size Y7x1)
        go_wp2_with fail
        go_wp2_with fail
        refine wp_region_held (S := (fun w' : World => Below (Y7x1.heap.size) Y7x1 w')) (by kernel_rfl) ?_
        change wpAnyH _ _ _ _ _ _ _ _ Y7x1.drew
        have hy : Below Y7x1.heap.size Y7x1 Y7x1.drew := (Below.refl _ _).drew
        have hE0 : Below (Y7x1.heap.size) Y7x1 Y7x1.drew := (Below.refl _ _).drew
        clear hy
        generalize Y7x1.drew = Y10x0 at hE0  ⊢
        have E0 := Lib.hid hE0
        clear hE0
        refine tkA 0 (?_) ?_ E0.out ?_
        rotate_left
        · (intro w1 hS; go_simp; try with_reducible rfl)
        simp only [Act.put, tS1, tS2, tS3]
        refine tkA 1 (?_) ?_ E0.out ?_
        rotate_left
        · (intro w1 hS; go_simp; try with_reducible rfl)
        simp only [Act.put, tS1, tS2, tS3]
        refine tkA 2 (?_) ?_ E0.out ?_
        rotate_left
        · (intro w1 hS; have hW := hS; have q := ((HV.out.below hW HV.out.lt).cell 1).trans G1.out; clear hW hS; go_simp; try with_reducible rfl)
        simp only [Act.put, tS1, tS2, tS3]
        refine tkA 3 (?_) ?_ E0.out ?_
        rotate_left
        · (intro w1 hS; have hW := hS; have q : (n : Int) ≤ (n : Int) + (m : Int) := (by omega); have q2 := HP2.out.symm; clear hW hS; go_simp; try with_reducible rfl)
        simp only [Act.put, tS1, tS2, tS3]
        refine tkA 4 (?_) ?_ E0.out ?_
        rotate_left
        · (intro w1 hS; go_simp; try with_reducible rfl)
        simp only [Act.put, tS1, tS2, tS3]
        refine tkA 5 (.agg DA) ?_ E0.out ?_
        · (intro w1 hS; have hW := hS; exact exec_load 25 (.tmp 65) rfl _ rfl _ (by have h := run_part_load (P := Try.prog) 25 0 DA.toList _ (HD.out.below hW HD.out.lt) PD.out Try.underlying25 rfl ID.out; rwa [Array.toArray_toList] at h))
        simp only [Act.put, tS1, tS2, tS3]
        refine tkO 6 (fun KK hK => ?_)
        go_simp
        refine (CD2.out _ _ (R2.out.below (K.out.trans (E0.out.mono K.out.size)))).mono ?_
        rintro e Y10x1 ⟨x, rfl, ox, hy⟩
        have E1 := Lib.hid (E0.out.trans (hy.mono E0.out.size))
        have C1 := Lib.hid E1.out
        have OX := Lib.hid (own_low E0.out.size ox)
        clear ox
        clear hy E0
        refine hK.out _ _ C1.out (fun _ => ?_)
        clear hK KK
        refine wpAnyH_mono (S' := (fun w' : World => Below Y10x1.heap.size Y10x1 w')) (fun w1 h => C1.out.trans (h.mono C1.out.size)) _ _ _ _ ?_
        clear C1
        try simp only [Act.put, tS1, tS2, tS3]
        refine tkA 7 (?_) ?_ (Below.refl _ _) ?_
        rotate_left
        · (intro w1 hS; go_simp; try with_reducible rfl)
        simp only [Act.put, tS1, tS2, tS3]
        refine wpAnyH_done (by kernel_rfl) ?_ _
        have hy := E1.out
        replace K := Lib.hid (K.out.trans (hy.mono K.out.size))
        replace HD := Lib.hid (HD.out.below hy HD.out.lt)
        replace HV := Lib.hid (HV.out.below hy HV.out.lt)
        replace Z := Lib.hid (Z.out.below hy)
        replace KV := Lib.hid (KV.out.trans (hy.mono KV.out.size))
        clear hy E1
        go_wp2
        go_meet
        exact ⟨OX.out, KV.out⟩
      | false =>
        simp only [Bool.false_eq_true, if_false] at CD1
        have CD2 := Lib.hid CD1
        clear CD1 CD
        have KV := Lib.hid (Below.refl Y7x1.heap.size Y7x1)
        go_wp2_with fail
        go_wp2_with fail
        refine wp_region_held (S := (fun w' : World => Below (Y7x1.heap.size) Y7x1 w')) (by kernel_rfl) ?_
        change wpAnyH _ _ _ _ _ _ _ _ Y7x1.drew
        have hy : Below Y7x1.heap.size Y7x1 Y7x1.drew := (Below.refl _ _).drew
        have hE0 : Below (Y7x1.heap.size) Y7x1 Y7x1.drew := (Below.refl _ _).drew
        clear hy
        generalize Y7x1.drew = Y11x0 at hE0  ⊢
        have E0 := Lib.hid hE0
        clear hE0
        refine tkA 0 (?_) ?_ E0.out ?_
        rotate_left
        · (intro w1 hS; go_simp; try with_reducible rfl)
        simp only [Act.put, tS1, tS2, tS3]
        refine tkA 1 (?_) ?_ E0.out ?_
        rotate_left
        · (intro w1 hS; go_simp; try with_reducible rfl)
        simp only [Act.put, tS1, tS2, tS3]
        refine tkA 2 (?_) ?_ E0.out ?_
        rotate_left
        · (intro w1 hS; have hW := hS; have q := ((HV.out.below hW HV.out.lt).cell 1).trans G1.out; clear hW hS; go_simp; try with_reducible rfl)
        simp only [Act.put, tS1, tS2, tS3]
        refine tkA 3 (?_) ?_ E0.out ?_
        rotate_left
        · (intro w1 hS; have hW := hS; have q : (n : Int) ≤ (n : Int) + (m : Int) := (by omega); have q2 := HP2.out.symm; clear hW hS; go_simp; try with_reducible rfl)
        simp only [Act.put, tS1, tS2, tS3]
        refine tkA 4 (?_) ?_ E0.out ?_
        rotate_left
        · (intro w1 hS; go_simp; try with_reducible rfl)
        simp only [Act.put, tS1, tS2, tS3]
        refine tkA 5 (.agg DA) ?_ E0.out ?_
        · (intro w1 hS; have hW := hS; exact exec_load 25 (.tmp 72) rfl _ rfl _ (by have h := run_part_load (P := Try.prog) 25 0 DA.toList _ (HD.out.below hW HD.out.lt) PD.out Try.underlying25 rfl ID.out; rwa [Array.toArray_toList] at h))
        simp only [Act.put, tS1, tS2, tS3]
        refine tkO 6 (fun KK hK => ?_)
        go_simp
        refine (CD2.out _ _ (R2.out.below (K.out.trans (E0.out.mono K.out.size)))).mono ?_
        rintro e Y11x1 ⟨x, rfl, ox, hy⟩
        have E1 := Lib.hid (E0.out.trans (hy.mono E0.out.size))
        have C1 := Lib.hid E1.out
        have OX := Lib.hid (own_low E0.out.size ox)
        clear ox
        clear hy E0
        refine hK.out _ _ C1.out (fun _ => ?_)
        clear hK KK
        refine wpAnyH_mono (S' := (fun w' : World => Below Y11x1.heap.size Y11x1 w')) (fun w1 h => C1.out.trans (h.mono C1.out.size)) _ _ _ _ ?_
        clear C1
        try simp only [Act.put, tS1, tS2, tS3]
        refine tkA 7 (?_) ?_ (Below.refl _ _) ?_
        rotate_left
        · (intro w1 hS; go_simp; try with_reducible rfl)
        simp only [Act.put, tS1, tS2, tS3]
        refine wpAnyH_done (by kernel_rfl) ?_ _
        have hy := E1.out
        replace K := Lib.hid (K.out.trans (hy.mono K.out.size))
        replace HD := Lib.hid (HD.out.below hy HD.out.lt)
        replace HV := Lib.hid (HV.out.below hy HV.out.lt)
        replace Z := Lib.hid (Z.out.below hy)
        replace KV := Lib.hid (KV.out.trans (hy.mono KV.out.size))
        clear hy E1
        go_wp2
        go_meet
        exact ⟨OX.out, KV.out⟩
    case rest =>
      obtain ⟨ho, hy⟩ := hcut
      have OX := Lib.hid ho
      replace K := Lib.hid (K.out.trans (hy.mono K.out.size))
      replace HD := Lib.hid (HD.out.below hy HD.out.lt)
      replace HV := Lib.hid (HV.out.below hy HV.out.lt)
      replace Z := Lib.hid (Z.out.below hy)
      clear ho hy CD HP2 R2
      obtain ⟨gx, kx, rfl, hkx, -, -, hgx⟩ := own_at OX.out (by omega)
      go_upto_region 12 with fail
      have L := Lib.hid (Below.refl wc.heap.size wc)
      have hal := (Below.refl wc.heap.size wc).alloc (Nat.le_refl _) (.cells #[] 5)
      have O2 := Lib.hid (own_low (b1 := wc.heap.size) L.out.size (own_none wc 5))
      replace L := Lib.hid (L.out.trans (hal.mono L.out.size))
      clear hal
      have f1 := ((HV.out.below L.out HV.out.lt).cell 1).trans G1.out
      have q2 : (n : Int) ≤ (cap : Int) := (by omega)
      go_wp2_with ((at_builtin; refine wpList_app rfl (.tmp 75) (.tmp 79) rfl wc.heap.size _ (0) [] rfl O2.out ((some ⟨b, off, none⟩)) (n) (cap) X0 rfl (R1.out.below (K.out.trans (L.out.mono K.out.size))) (by intro e; cases e) ?ap14b ?ap14c ?ap14d))
      case ap14b => omega
      case ap14c => first | exact L.out.size | (have q := L.out.size; simp only [World.size_alloc] at q; exact q)
      intro vx V5 oz gz
      replace L := Lib.hid (L.out.grown gz L.out.size (fun k e => by first | exact (O2.out.lt k e).1 | (cases e; first | exact Nat.le_refl _ | omega)))
      have oz : V5.ownsRow wc.heap.size 5 1 vx (n) (nus .u8 (X0)) := by first | exact oz | simpa using oz
      replace O2 := Lib.hid oz
      obtain ⟨g1, k1, rfl, hk1, hk1m, hg1, hg1u⟩ := own_at O2.out (by omega)
      clear oz gz
      clear f1 q2
      go_wp2_with ((at_builtin; refine wpList_app rfl (.tmp 80) (.tmp 81) rfl wc.heap.size _ (n) X0 rfl O2.out ((some ⟨gx, 0, none⟩)) (m) (kx) X1 rfl ((Rd.own OX.out).below L.out) (by intro e; cases e) ?ap15b ?ap15c ?ap15d))
      case ap15b => omega
      case ap15c => first | exact L.out.size | (have q := L.out.size; simp only [World.size_alloc] at q; exact q)
      intro vx V6 oz gz
      replace L := Lib.hid (L.out.grown gz L.out.size (fun k e => by first | exact (O2.out.lt k e).1 | (cases e; first | exact Nat.le_refl _ | omega)))
      replace O2 := Lib.hid oz
      obtain ⟨g2, k2, rfl, hk2, hk2m, hg2, hg2u⟩ := own_at O2.out (by omega)
      clear oz gz
      clear OX R1 CF YVW QVW AVW CV ZDP ID PD IF H0 H17 G1 G3 G4 G40 PF HY1 HXL
      go_wp2_with fail
      have Z0 := Lib.hid (Z.out.cells (by omega))
      obtain ⟨bz, oz, rfl, qz⟩ := Z0.out
      clear Z0
      have QZ := Lib.hid qz
      have hbz := rd_cell (qz 0 (by omega))
      clear qz
      go_loopw [12] (fun i wr => ∃ k : Nat, k ≤ en - sg ∧ i = .int .i64 (k : Int) ∧ wr.ownsRow wc.heap.size 5 1 (.slice (some ⟨g2, 0, none⟩) (n + m) k2) (n + m) (nus .u8 (ov (X0 ++ X1) (X2.take k) sg)) ∧ Below wc.heap.size wc wr) (fun i _ => (en - sg) - (intOf i).toNat)
      case atStart => exact ⟨0, Nat.zero_le _, rfl, by rw [List.take_zero, ov_nil]; exact O2.out, L.out⟩
      case round =>
        obtain ⟨k, hk, rfl, ho, hy⟩ := hrel
        have OW := Lib.hid ho
        have KW := Lib.hid hy
        clear ho hy O2 L
        by_cases hkn : k < en - sg
        · have fz0 := Lib.hid (QZ.out k hkn)
          have HS := Lib.hid (HST.out k hkn)
          generalize X2.getD k 0 = x1 at fz0 HS
          have hsk : IntKind.i64.wrap ((sg : Int) + (k : Int)) = (sg : Int) + (k : Int) := by rw [IntKind.wrap_i64]; omega
          have hi2 : (0 : Int) ≤ (sg : Int) + (k : Int) ∧ (sg : Int) + (k : Int) < (n : Int) + (m : Int) := by omega
          have hi3 : ((sg : Int) + (k : Int)).toNat = sg + k := by omega
          have hi4 : (k : Int) < ((en - sg : Nat) : Int) := by omega
          go_wp2_with fail
          refine wp_region_still_tail 10 (by kernel_rfl) (by kernel_rfl) ?_
          change wpStill _ _ wr.drew (fun a' => wpList _ _ _ _ a' wr.drew) _ _
          have hy := (Below.refl wr.heap.size wr).drew
          replace KW := Lib.hid (KW.out.trans (hy.mono KW.out.size))
          replace OW := Lib.hid (row_under OW.out hy)
          clear hy
          generalize wr.drew = V7 at *
          have f2 := ((HV.out.below KW.out HV.out.lt).cell 2).trans G2.out
          have fz := (KW.out.cell (p := ⟨bz, oz + k, none⟩) hbz).trans fz0.out
          simp only [List.take_succ_cons, List.take_zero, List.drop_succ_cons, List.drop_zero]
          still_step
          still_step
          still_step
          still_step
          still_step
          still_step
          still_step
          still_step
          still_step
          still_step
          refine wpStill_nil ?_
          try simp only [Act.put, tS1, tS2, tS3]
          have t1 := OW.out.cellAt (sg + k) (by omega)
          rw [nus_get _ _ _ (by rw [HO2.out k hk]; omega)] at t1
          have t2 := OW.out.frozenAt (sg + k)
          have q1 := OW.out.stored (sg + k) (.int .u8 ((x1 : Nat) : Int))
          rw [nus_set, HS.out] at q1
          have OQ := Lib.hid q1.1
          have KQ := Lib.hid (KW.out.grown q1.2 KW.out.size (fun k e => by cases e; exact hg2))
          clear q1 f2 OW KW
          generalize (ov (X0 ++ X1) (X2.take k) sg).getD (sg + k) 0 = y1 at t1
          go_wp2
          go_roundw
          case rel => exact ⟨k + 1, by omega, by go_num, OQ.out, KQ.out⟩
          case measure => simp [intOf]; omega
        · obtain rfl : k = en - sg := by omega
          have O4 := Lib.hid (Rd.own OW.out)
          rw [List.take_of_length_le (by rw [HX2.out]; exact Nat.le_refl _), HOV.out] at O4
          have K4 := Lib.hid (K.out.trans (KW.out.mono K.out.size))
          clear hk hkn OW KW K
          go_wp2
          go_ret2
          exact ⟨_, rfl, O4.out, K4.out⟩
end Go.Proofs.Ythionipmohbnhaa
namespace Go.Proofs.Ythionipmohbnhaa
open Go.RowKit
set_option maxRecDepth 100000 in
set_option maxHeartbeats 4000000 in
theorem tells_walk (v0 v2 : Value) (A C : List Nat) (six : Bool) (D : List Nat) (tp : Nat) (w : World) (hr : Rd w v0 (nus .u8 A)) (hb : ∀ c ∈ A, c < 256) (hr2 : Rd w v2 (nus .u8 C)) (hD : D.length = 16) (hbD : ∀ c ∈ D, c < 256) (ht : tp < 65536) :
    Calls Try.prog 3 #[v0, .agg (dcells (cellsA six D) tp), v2] w fun e w' => e = .returned (.bool true) ∧ Below w.heap.size w w' := by
  have K := Lib.hid (Below.refl w.heap.size w)
  have HR := Lib.hid hr
  have HC := Lib.hid hr2
  have ZDP := Lib.hid (i45.trans (congrArg some (dcells_size (cellsA six D) tp (by rw [cellsA_size, hD])).symm))
  have CT := Lib.hid (fun (hz : A.length ≤ 3000) W (h : Rd W v0 (nus .u8 A)) => to_any v0 A six D tp W h hb (by omega) hD hbD ht)
  have CR := Lib.hid (fun (hz : A.length ≤ 3000) W (h : Rd W v0 (nus .u8 A)) => rto_any v0 A six D tp W h hb hz hD hbD ht)
  have CD := Lib.hid (fun (hz : A.length ≤ 3000) (hz2 : C.length ≤ 3000) W (h : Rd W v0 (nus .u8 A)) (h2 : Rd W v2 (nus .u8 C)) => differs_any v0 v2 A C W h h2 hz hz2)
  generalize tof A six D tp = T at *
  generalize ok9 A six D = ok at *
  generalize dcells (cellsA six D) tp = DP at *
  obtain ⟨a, cap, rfl, hlc, hlm⟩ := rd_shape hr
  obtain ⟨a2, cap2, rfl, hlc2, hlm2⟩ := rd_shape hr2
  clear hr hr2 hb hD hbD ht
  obtain ⟨la, hla⟩ : ∃ n, n = A.length := ⟨_, rfl⟩
  obtain ⟨lc, hlc'⟩ : ∃ n, n = C.length := ⟨_, rfl⟩
  rw [← hla] at HR CT CR CD hlc ⊢
  rw [← hlc'] at HC CD hlc2 ⊢
  have HA := Lib.hid hla
  have HL := Lib.hid hlc'
  clear hla hlc'
  by_cases h1 : 3000 < la
  · clear CT CR CD
    go_enter Try.func3, Try.ntmps3
    have hal := (Below.refl w.heap.size w).alloc (Nat.le_refl _) (.cells DP 28)
    replace K := Lib.hid (K.out.trans (hal.mono K.out.size))
    have HD := Lib.hid (Blk.new w 28 DP)
    clear hal
    go_upto_region 1 with fail
    have hzV1 : Hid ((w.alloc (.cells DP 28)).heap.size = w.heap.size + 1) := by show _ = _; simp only [World.size_alloc]
    generalize (w.alloc (.cells DP 28)) = V1 at *
    go_wp2_with fail
    refine (awake_any _).mono ?_
    rintro e w1 ⟨rfl, hy⟩
    replace K := Lib.hid (K.out.trans (hy.mono K.out.size))
    go_wp2
    go_ret
    exact ⟨rfl, K.out⟩
  by_cases h2 : 3000 < lc
  · clear CT CR CD
    go_enter Try.func3, Try.ntmps3
    have hal := (Below.refl w.heap.size w).alloc (Nat.le_refl _) (.cells DP 28)
    replace K := Lib.hid (K.out.trans (hal.mono K.out.size))
    have HD := Lib.hid (Blk.new w 28 DP)
    clear hal
    go_upto_region 1 with fail
    have hzV1 : Hid ((w.alloc (.cells DP 28)).heap.size = w.heap.size + 1) := by show _ = _; simp only [World.size_alloc]
    generalize (w.alloc (.cells DP 28)) = V1 at *
    go_wp2_with fail
    refine (awake_any _).mono ?_
    rintro e w1 ⟨rfl, hy⟩
    replace K := Lib.hid (K.out.trans (hy.mono K.out.size))
    go_wp2
    go_ret
    exact ⟨rfl, K.out⟩
  replace CT := Lib.hid (CT.out (by omega))
  replace CR := Lib.hid (CR.out (by omega))
  replace CD := Lib.hid (CD.out (by omega) (by omega))
  go_enter Try.func3, Try.ntmps3
  have hal := (Below.refl w.heap.size w).alloc (Nat.le_refl _) (.cells DP 28)
  replace K := Lib.hid (K.out.trans (hal.mono K.out.size))
  have HD := Lib.hid (Blk.new w 28 DP)
  clear hal
  go_upto_region 1 with fail
  have hzV1 : Hid ((w.alloc (.cells DP 28)).heap.size = w.heap.size + 1) := by show _ = _; simp only [World.size_alloc]
  generalize (w.alloc (.cells DP 28)) = V1 at *
  have L1 : (loadVar 28 ⟨w.heap.size, 0, none⟩).run Try.prog V1 = .ok (.agg DP) V1 := run_blk_load (P := Try.prog) 28 (w.heap.size) _ HD.out Try.underlying28 rfl ZDP.out
  replace L1 := Lib.hid L1
  go_wp2_with (((with_reducible refine wpList_load_want (op := ⟨some 24, .load 28 (.tmp 4), _, _, _, _⟩) ?wg1 28 (.tmp 4) ?wo1 ⟨w.heap.size, 0, none⟩ ?wx1 (.agg DP) L1.out ?_); (case wg1 => rfl); (case wo1 => rfl); (case wx1 => rfl)))
  clear L1
  refine (CT.out _ (HR.out.below K.out)).mono ?_
  rintro e V2 ⟨x1, rfl, rx1, hy⟩
  replace K := Lib.hid (K.out.trans (hy.mono K.out.size))
  replace HD := Lib.hid (HD.out.below hy HD.out.lt)
  have X1 := Lib.hid (rx1)
  clear rx1
  clear hy
  have L2 : (loadVar 28 ⟨w.heap.size, 0, none⟩).run Try.prog V2 = .ok (.agg DP) V2 := run_blk_load (P := Try.prog) 28 (w.heap.size) _ HD.out Try.underlying28 rfl ZDP.out
  replace L2 := Lib.hid L2
  go_wp2_with (((with_reducible refine wpList_load_want (op := ⟨some 30, .load 28 (.tmp 4), _, _, _, _⟩) ?wg2 28 (.tmp 4) ?wo2 ⟨w.heap.size, 0, none⟩ ?wx2 (.agg DP) L2.out ?_); (case wg2 => rfl); (case wo2 => rfl); (case wx2 => rfl)))
  clear L2
  refine (CR.out _ (HR.out.below K.out)).mono ?_
  rintro e V3 ⟨x2, rfl, rx2, hy⟩
  replace K := Lib.hid (K.out.trans (hy.mono K.out.size))
  replace HD := Lib.hid (HD.out.below hy HD.out.lt)
  replace X1 := Lib.hid (X1.out.below hy)
  have X2 := Lib.hid (rx2)
  clear rx2
  clear hy
  clear CT CR HD ZDP
  replace HR := Lib.hid (HR.out.below K.out)
  replace HC := Lib.hid (HC.out.below K.out)
  obtain ⟨m, hm⟩ : ∃ m, m = max la lc := ⟨_, rfl⟩
  have HM := Lib.hid hm
  have hm1 : la ≤ m := by omega
  have hm2 : lc ≤ m := by omega
  have hm3 : m ≤ 3000 := by omega
  clear hm
  go_wp2_with fail
  go_loopw [11, 12] (fun x i wr => ∃ k : Nat, k ≤ m ∧ i = .int .i64 (k : Int) ∧ wr.ownsRow V3.heap.size 3 1 x (dif A C k).length (nus .i64 (dif A C k)) ∧ Below V3.heap.size V3 wr) (fun _ i _ => m - (intOf i).toNat)
  case atStart => exact ⟨0, Nat.zero_le _, rfl, own_nilI _ _ _, Below.refl _ _⟩
  case round =>
    obtain ⟨k, hk, rfl, ho, hy⟩ := hrel
    have O := Lib.hid ho
    have L := Lib.hid hy
    clear ho hy
    go_upto_region 7 with fail
    go_cut [40] (fun v wx => v = .bool (decide (k < m)) ∧ wx = wr)
    case first =>
      go_wp2_with fail
      all_goals go_meet
      all_goals exact ⟨by first | (congr 1 <;> exact decide_eq_decide.2 (by have := HM.out; omega)) | rfl, rfl⟩
    case rest =>
      obtain ⟨rfl, hw⟩ := hcut
      have hw := hw.symm
      subst hw
      by_cases hkm : k < m
      · rw [decide_eq_true hkm]
        have hq1 := dif_len A C k
        have hkw : IntKind.i64.wrap ((k : Int) + 1) = ((k + 1 : Nat) : Int) := by rw [IntKind.wrap_i64]; omega
        go_upto_region 9 with fail
        go_cut [63] (fun v wx => v = .bool (dfp A C k) ∧ Below wr.heap.size wr wx)
        case first =>
          by_cases ha : la ≤ k
          · have HP : Hid (dfp A C k = true) := by show _ = true; unfold dfp; rw [← HA.out, decide_eq_true ha]; simp
            have hds : decide ((la : Int) ≤ (k : Int)) = true := decide_eq_true (by omega)
            have hdt : decide (la ≤ k) = true := decide_eq_true ha
            have KX := Lib.hid (Below.refl wr.heap.size wr)
            go_wp2_with fail
            refine wp_region_held (S := (fun w' : World => Below (wr.heap.size) wr w')) (by kernel_rfl) ?_
            change wpAnyH _ _ _ _ _ _ _ _ wr.drew
            have hy : Below wr.heap.size wr wr.drew := (Below.refl _ _).drew
            have hE0 : Below (wr.heap.size) wr wr.drew := (Below.refl _ _).drew
            clear hy
            generalize wr.drew = Y9x0 at hE0  ⊢
            have E0 := Lib.hid hE0
            clear hE0
            refine tkA 0 (?_) ?_ E0.out ?_
            rotate_left
            · (intro w1 hS; go_simp; try with_reducible rfl)
            simp only [Act.put, tS1, tS2, tS3]
            refine tkA 1 (?_) ?_ E0.out ?_
            rotate_left
            · (intro w1 hS; go_simp; try with_reducible rfl)
            simp only [Act.put, tS1, tS2, tS3]
            refine tkA 2 (?_) ?_ E0.out ?_
            rotate_left
            · (intro w1 hS; go_simp; try with_reducible rfl)
            simp only [Act.put, tS1, tS2, tS3]
            refine tkA 3 (?_) ?_ E0.out ?_
            rotate_left
            · (intro w1 hS; go_simp; try with_reducible rfl)
            simp only [Act.put, tS1, tS2, tS3]
            refine tkA 4 (?_) ?_ E0.out ?_
            rotate_left
            · (intro w1 hS; go_simp; try with_reducible rfl)
            simp only [Act.put, tS1, tS2, tS3]
            refine tkN 5 E0.out ?_
            simp only [Act.put, tS1, tS2, tS3]
            refine tkN 6 E0.out ?_
            simp only [Act.put, tS1, tS2, tS3]
            refine tkN 7 E0.out ?_
            simp only [Act.put, tS1, tS2, tS3]
            refine tkN 8 E0.out ?_
            simp only [Act.put, tS1, tS2, tS3]
            refine tkA 9 (?_) ?_ E0.out ?_
            rotate_left
            · (intro w1 hS; go_simp; try with_reducible rfl)
            simp only [Act.put, tS1, tS2, tS3]
            refine tkA 10 (?_) ?_ E0.out ?_
            rotate_left
            · (intro w1 hS; go_simp; try with_reducible rfl)
            simp only [Act.put, tS1, tS2, tS3]
            refine tkN 11 E0.out ?_
            simp only [Act.put, tS1, tS2, tS3]
            refine tkN 12 E0.out ?_
            simp only [Act.put, tS1, tS2, tS3]
            refine tkN 13 E0.out ?_
            simp only [Act.put, tS1, tS2, tS3]
            refine tkN 14 E0.out ?_
            simp only [Act.put, tS1, tS2, tS3]
            refine tkN 15 E0.out ?_
            simp only [Act.put, tS1, tS2, tS3]
            refine tkN 16 E0.out ?_
            simp only [Act.put, tS1, tS2, tS3]
            refine tkN 17 E0.out ?_
            simp only [Act.put, tS1, tS2, tS3]
            refine tkN 18 E0.out ?_
            simp only [Act.put, tS1, tS2, tS3]
            refine tkN 19 E0.out ?_
            simp only [Act.put, tS1, tS2, tS3]
            refine tkA 20 (?_) ?_ E0.out ?_
            rotate_left
            · (intro w1 hS; go_simp; try with_reducible rfl)
            simp only [Act.put, tS1, tS2, tS3]
            refine wpAnyH_done (by kernel_rfl) ?_ _
            have hy := E0.out
            replace KX := Lib.hid (KX.out.trans (hy.mono KX.out.size))
            clear hy E0
            go_wp2
            go_meet
            exact ⟨by rw [HP.out], KX.out⟩
          have hds : decide ((la : Int) ≤ (k : Int)) = false := decide_eq_false (by omega)
          have hdt : decide (la ≤ k) = false := decide_eq_false ha
          by_cases hc : lc ≤ k
          · have HP : Hid (dfp A C k = true) := by show _ = true; unfold dfp; rw [← HL.out, decide_eq_true hc]; simp
            have hes : decide ((lc : Int) ≤ (k : Int)) = true := decide_eq_true (by omega)
            have het : decide (lc ≤ k) = true := decide_eq_true hc
            have KX := Lib.hid (Below.refl wr.heap.size wr)
            go_wp2_with fail
            refine wp_region_held (S := (fun w' : World => Below (wr.heap.size) wr w')) (by kernel_rfl) ?_
            change wpAnyH _ _ _ _ _ _ _ _ wr.drew
            have hy : Below wr.heap.size wr wr.drew := (Below.refl _ _).drew
            have hE0 : Below (wr.heap.size) wr wr.drew := (Below.refl _ _).drew
            clear hy
            generalize wr.drew = Y9x0 at hE0  ⊢
            have E0 := Lib.hid hE0
            clear hE0
            refine tkA 0 (?_) ?_ E0.out ?_
            rotate_left
            · (intro w1 hS; go_simp; try with_reducible rfl)
            simp only [Act.put, tS1, tS2, tS3]
            refine tkA 1 (?_) ?_ E0.out ?_
            rotate_left
            · (intro w1 hS; go_simp; try with_reducible rfl)
            simp only [Act.put, tS1, tS2, tS3]
            refine tkA 2 (?_) ?_ E0.out ?_
            rotate_left
            · (intro w1 hS; go_simp; try with_reducible rfl)
            simp only [Act.put, tS1, tS2, tS3]
            refine tkA 3 (?_) ?_ E0.out ?_
            rotate_left
            · (intro w1 hS; go_simp; try with_reducible rfl)
            simp only [Act.put, tS1, tS2, tS3]
            refine tkA 4 (?_) ?_ E0.out ?_
            rotate_left
            · (intro w1 hS; go_simp; try with_reducible rfl)
            simp only [Act.put, tS1, tS2, tS3]
            refine tkA 5 (?_) ?_ E0.out ?_
            rotate_left
            · (intro w1 hS; go_simp; try with_reducible rfl)
            simp only [Act.put, tS1, tS2, tS3]
            refine tkA 6 (?_) ?_ E0.out ?_
            rotate_left
            · (intro w1 hS; go_simp; try with_reducible rfl)
            simp only [Act.put, tS1, tS2, tS3]
            refine tkA 7 (?_) ?_ E0.out ?_
            rotate_left
            · (intro w1 hS; go_simp; try with_reducible rfl)
            simp only [Act.put, tS1, tS2, tS3]
            refine tkA 8 (?_) ?_ E0.out ?_
            rotate_left
            · (intro w1 hS; go_simp; try with_reducible rfl)
            simp only [Act.put, tS1, tS2, tS3]
            refine tkA 9 (?_) ?_ E0.out ?_
            rotate_left
            · (intro w1 hS; go_simp; try with_reducible rfl)
            simp only [Act.put, tS1, tS2, tS3]
            refine tkA 10 (?_) ?_ E0.out ?_
            rotate_left
            · (intro w1 hS; go_simp; try with_reducible rfl)
            simp only [Act.put, tS1, tS2, tS3]
            refine tkN 11 E0.out ?_
            simp only [Act.put, tS1, tS2, tS3]
            refine tkN 12 E0.out ?_
            simp only [Act.put, tS1, tS2, tS3]
            refine tkN 13 E0.out ?_
            simp only [Act.put, tS1, tS2, tS3]
            refine tkN 14 E0.out ?_
            simp only [Act.put, tS1, tS2, tS3]
            refine tkN 15 E0.out ?_
            simp only [Act.put, tS1, tS2, tS3]
            refine tkN 16 E0.out ?_
            simp only [Act.put, tS1, tS2, tS3]
            refine tkN 17 E0.out ?_
            simp only [Act.put, tS1, tS2, tS3]
            refine tkN 18 E0.out ?_
            simp only [Act.put, tS1, tS2, tS3]
            refine tkN 19 E0.out ?_
            simp only [Act.put, tS1, tS2, tS3]
            refine tkA 20 (?_) ?_ E0.out ?_
            rotate_left
            · (intro w1 hS; go_simp; try with_reducible rfl)
            simp only [Act.put, tS1, tS2, tS3]
            refine wpAnyH_done (by kernel_rfl) ?_ _
            have hy := E0.out
            replace KX := Lib.hid (KX.out.trans (hy.mono KX.out.size))
            clear hy E0
            go_wp2
            go_meet
            exact ⟨by rw [HP.out], KX.out⟩
          have hes : decide ((lc : Int) ≤ (k : Int)) = false := decide_eq_false (by omega)
          have het : decide (lc ≤ k) = false := decide_eq_false hc
          have ka : k < la := by omega
          have kc : k < lc := by omega
          obtain ⟨b1, o1, rfl, q1⟩ := HR.out.cells (by omega)
          obtain ⟨b2, o2, rfl, q2⟩ := HC.out.cells (by omega)
          have C1 := Lib.hid ((L.out.cell (p := ⟨b1, o1 + k, none⟩) (cell_lt (q1 k ka))).trans (q1 k ka))
          have C2 := Lib.hid ((L.out.cell (p := ⟨b2, o2 + k, none⟩) (cell_lt (q2 k kc))).trans (q2 k kc))
          have B1 := Lib.hid (cell_lt C1.out)
          have B2 := Lib.hid (cell_lt C2.out)
          clear q1 q2
          have HPX : Hid (dfp A C k = decide (A.getD k 0 ≠ C.getD k 0)) := by
            show _ = _
            unfold dfp; rw [← HA.out, ← HL.out, hdt, het]; rfl
          generalize A.getD k 0 = x at *
          generalize C.getD k 0 = y at *
          have ki : (k : Int) < (la : Int) := by omega
          have kj : (k : Int) < (lc : Int) := by omega
          obtain ⟨r, hr⟩ : ∃ r, r = decide (x ≠ y) := ⟨_, rfl⟩
          have e2 : ((x : Int) != (y : Int)) = r := by rw [hr]; by_cases q : x = y <;> simp [q]; omega
          have HP : Hid (dfp A C k = r) := by show _ = _; rw [HPX.out, hr]
          clear hr HPX
          have KX := Lib.hid (Below.refl wr.heap.size wr)
          go_wp2_with fail
          refine wp_region_held (S := (fun w' : World => Below (wr.heap.size) wr w')) (by kernel_rfl) ?_
          change wpAnyH _ _ _ _ _ _ _ _ wr.drew
          have hy : Below wr.heap.size wr wr.drew := (Below.refl _ _).drew
          have hE0 : Below (wr.heap.size) wr wr.drew := (Below.refl _ _).drew
          clear hy
          generalize wr.drew = Y9x0 at hE0  ⊢
          have E0 := Lib.hid hE0
          clear hE0
          refine tkA 0 (?_) ?_ E0.out ?_
          rotate_left
          · (intro w1 hS; go_simp; try with_reducible rfl)
          simp only [Act.put, tS1, tS2, tS3]
          refine tkA 1 (?_) ?_ E0.out ?_
          rotate_left
          · (intro w1 hS; go_simp; try with_reducible rfl)
          simp only [Act.put, tS1, tS2, tS3]
          refine tkA 2 (?_) ?_ E0.out ?_
          rotate_left
          · (intro w1 hS; go_simp; try with_reducible rfl)
          simp only [Act.put, tS1, tS2, tS3]
          refine tkA 3 (?_) ?_ E0.out ?_
          rotate_left
          · (intro w1 hS; go_simp; try with_reducible rfl)
          simp only [Act.put, tS1, tS2, tS3]
          refine tkA 4 (?_) ?_ E0.out ?_
          rotate_left
          · (intro w1 hS; go_simp; try with_reducible rfl)
          simp only [Act.put, tS1, tS2, tS3]
          refine tkA 5 (?_) ?_ E0.out ?_
          rotate_left
          · (intro w1 hS; go_simp; try with_reducible rfl)
          simp only [Act.put, tS1, tS2, tS3]
          refine tkA 6 (?_) ?_ E0.out ?_
          rotate_left
          · (intro w1 hS; go_simp; try with_reducible rfl)
          simp only [Act.put, tS1, tS2, tS3]
          refine tkA 7 (?_) ?_ E0.out ?_
          rotate_left
          · (intro w1 hS; go_simp; try with_reducible rfl)
          simp only [Act.put, tS1, tS2, tS3]
          refine tkA 8 (?_) ?_ E0.out ?_
          rotate_left
          · (intro w1 hS; go_simp; try with_reducible rfl)
          simp only [Act.put, tS1, tS2, tS3]
          refine tkA 9 (?_) ?_ E0.out ?_
          rotate_left
          · (intro w1 hS; go_simp; try with_reducible rfl)
          simp only [Act.put, tS1, tS2, tS3]
          refine tkA 10 (?_) ?_ E0.out ?_
          rotate_left
          · (intro w1 hS; go_simp; try with_reducible rfl)
          simp only [Act.put, tS1, tS2, tS3]
          refine tkA 11 (?_) ?_ E0.out ?_
          rotate_left
          · (intro w1 hS; go_simp; try with_reducible rfl)
          simp only [Act.put, tS1, tS2, tS3]
          refine tkA 12 (?_) ?_ E0.out ?_
          rotate_left
          · (intro w1 hS; go_simp; try with_reducible rfl)
          simp only [Act.put, tS1, tS2, tS3]
          refine tkA 13 (?_) ?_ E0.out ?_
          rotate_left
          · (intro w1 hS; go_simp; try with_reducible rfl)
          simp only [Act.put, tS1, tS2, tS3]
          refine tkA 14 (?_) ?_ E0.out ?_
          rotate_left
          · (intro w1 hS; have hW := hS; have q := (hW.cell (p := ⟨b1, o1 + k, none⟩) B1.out).trans C1.out; clear hW hS; go_simp; try with_reducible rfl)
          simp only [Act.put, tS1, tS2, tS3]
          refine tkA 15 (?_) ?_ E0.out ?_
          rotate_left
          · (intro w1 hS; go_simp; try with_reducible rfl)
          simp only [Act.put, tS1, tS2, tS3]
          refine tkA 16 (?_) ?_ E0.out ?_
          rotate_left
          · (intro w1 hS; go_simp; try with_reducible rfl)
          simp only [Act.put, tS1, tS2, tS3]
          refine tkA 17 (?_) ?_ E0.out ?_
          rotate_left
          · (intro w1 hS; go_simp; try with_reducible rfl)
          simp only [Act.put, tS1, tS2, tS3]
          refine tkA 18 (?_) ?_ E0.out ?_
          rotate_left
          · (intro w1 hS; have hW := hS; have q := (hW.cell (p := ⟨b2, o2 + k, none⟩) B2.out).trans C2.out; clear hW hS; go_simp; try with_reducible rfl)
          simp only [Act.put, tS1, tS2, tS3]
          refine tkA 19 (?_) ?_ E0.out ?_
          rotate_left
          · (intro w1 hS; go_simp; try with_reducible rfl)
          simp only [Act.put, tS1, tS2, tS3]
          refine tkA 20 (?_) ?_ E0.out ?_
          rotate_left
          · (intro w1 hS; go_simp; try with_reducible rfl)
          simp only [Act.put, tS1, tS2, tS3]
          refine wpAnyH_done (by kernel_rfl) ?_ _
          have hy := E0.out
          replace KX := Lib.hid (KX.out.trans (hy.mono KX.out.size))
          clear hy E0
          go_wp2
          go_meet
          exact ⟨by rw [HP.out], KX.out⟩
        case rest =>
          obtain ⟨rfl, hy⟩ := hcut
          replace O := Lib.hid (row_under O.out hy)
          replace L := Lib.hid (L.out.trans (hy.mono L.out.size))
          clear hy
          by_cases hd : dfp A C k = true
          · have HP := Lib.hid (dif_yes A C k hd)
            rw [hd]
            clear hd
            go_upto_region 10 with fail
            have hal := (Below.refl wc.heap.size wc).alloc (Nat.le_refl _) (.cells #[.int .i64 (k : Int)] 3)
            have O1 := Lib.hid (row_under O.out hal)
            have L1 := Lib.hid (L.out.trans (hal.mono L.out.size))
            have CG := Lib.hid (show (wc.alloc (.cells #[.int .i64 (k : Int)] 3)).cell? ⟨wc.heap.size, 0, none⟩ = some (.int .i64 (k : Int)) from (Boxed.new wc 3 (.int .i64 (k : Int))).cell)
            clear hal O L
            go_wp2_with (first | (at_builtin; refine wpList_app_int rfl (.tmp 64) (.tmp 66) rfl V3.heap.size _ _ (dif A C k) k rfl O1.out _ rfl CG.out ?ca ?cb ?_))
            case ca => omega
            case cb => first | exact L1.out.size | (have q := L1.out.size; simp only [World.size_alloc] at q; omega)
            intro v2 w2 o2 g2
            have L2 := Lib.hid (L1.out.grown g2 L1.out.size (fun k e => (O1.out.lt k e).1))
            have O2 : Hid (w2.ownsRow V3.heap.size 3 1 v2 (dif A C (k + 1)).length (nus .i64 (dif A C (k + 1)))) := by show World.ownsRow _ _ _ _ _ _ _; rw [HP.out, List.length_append]; exact o2
            clear o2 g2 O1 L1 CG HP
            go_wp2
            go_roundw
            case rel => exact ⟨k + 1, by omega, by go_num, O2.out, L2.out⟩
            case measure => simp [intOf]; omega
          · have hd : dfp A C k = false := by simpa using hd
            have HP := Lib.hid (dif_no A C k hd)
            rw [hd]
            clear hd
            go_wp2
            go_roundw
            case rel => exact ⟨k + 1, by omega, by go_num, by rw [HP.out]; exact O.out, L.out⟩
            case measure => simp [intOf]; omega
      · have hmk : m = k := by omega
        subst hmk
        rw [decide_eq_false hkm]
        clear hkm hk
        go_upto_region 11 with fail
        have hDD : dif A C m = difs A C := by rw [HM.out, HA.out, HL.out]; rfl
        have OW := Lib.hid (Rd.own O.out)
        rw [hDD] at OW
        have hdl : (difs A C).length ≤ 3000 := by rw [← hDD]; have := dif_len A C m; omega
        clear hDD O HA HL HM
        have R1 := Lib.hid (HR.out.below L.out)
        have R2 := Lib.hid (HC.out.below L.out)
        have Y1 := Lib.hid (X1.out.below L.out)
        have Y2 := Lib.hid (X2.out.below L.out)
        have K2 := Lib.hid (K.out.trans (L.out.mono K.out.size))
        have cv1 := conv_rd wr 22 9 5 Try.underlying22 Try.underlying5 Try.underlying9 _ _ Y1.out
        have cv2 := conv_rd wr 22 9 5 Try.underlying22 Try.underlying5 Try.underlying9 _ _ Y2.out
        generalize str T = st at *
        have CI := Lib.hid (fun W x y (h1 : Rd W x (nus .i64 (difs A C))) (h2 : Rd W y (nus .i64 (difs A C))) => ints_any x y (difs A C) W h1 h2 (by omega))
        generalize difs A C = DL at *
        clear K HR HC X1 X2 Y1 Y2 L hdl
        go_wp2_with fail
        refine (CD.out _ R1.out R2.out).mono ?_
        rintro e V21 ⟨x3, rfl, ox3, hy⟩
        replace K2 := Lib.hid (K2.out.trans (hy.mono K2.out.size))
        replace R1 := Lib.hid (R1.out.below hy)
        replace R2 := Lib.hid (R2.out.below hy)
        replace OW := Lib.hid (OW.out.below hy)
        have X3 := Lib.hid (Rd.own ox3)
        clear ox3
        clear hy
        go_wp2_with fail
        refine (CI.out _ _ _ X3.out OW.out).mono ?_
        rintro e V22 ⟨rfl, hy⟩
        replace K2 := Lib.hid (K2.out.trans (hy.mono K2.out.size))
        replace R1 := Lib.hid (R1.out.below hy)
        replace R2 := Lib.hid (R2.out.below hy)
        replace OW := Lib.hid (OW.out.below hy)
        replace X3 := Lib.hid (X3.out.below hy)
        clear hy
        go_wp2_with fail
        refine (awake_any _).mono ?_
        rintro e V23 ⟨rfl, hy⟩
        replace K2 := Lib.hid (K2.out.trans (hy.mono K2.out.size))
        replace R1 := Lib.hid (R1.out.below hy)
        replace R2 := Lib.hid (R2.out.below hy)
        replace OW := Lib.hid (OW.out.below hy)
        replace X3 := Lib.hid (X3.out.below hy)
        clear hy
        go_wp2
        go_ret
        exact ⟨rfl, K2.out⟩
end Go.Proofs.Ythionipmohbnhaa
