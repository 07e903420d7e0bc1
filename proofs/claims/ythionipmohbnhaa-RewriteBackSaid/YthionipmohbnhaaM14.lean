/- Texts that the walks of this seat lean on, put together. -/
import Derived.Deep.DeepCutAuto
import Derived.Deep.CutBlock
import Derived.WalkKit
import Derived.LoopTactic
import Derived.Handy
import Derived.Lib.QuietBelow
import Derived.RangeFuncBox
import Derived.Test.YthionipmohbnhaaTk
import Derived.Test.YthionipmohbnhaaM01
import Derived.Test.YthionipmohbnhaaM02
import Derived.Test.YthionipmohbnhaaM04
import Derived.Test.YthionipmohbnhaaM05
import Derived.Test.YthionipmohbnhaaM06
import Derived.Test.YthionipmohbnhaaM12
import Derived.Test.YthionipmohbnhaaM13
namespace Go.Proofs.Ythionipmohbnhaa
open Go.RowKit
theorem concat_4 (b : Nat) (a0 a1 a2 a3 : Option Addr) (n0 n1 n2 n3 c0 c1 c2 c3 : Nat) (z0 z1 z2 z3 : List Nat) (w : World) (B : Blk w b 22 #[.slice a0 n0 c0, .slice a1 n1 c1, .slice a2 n2 c2, .slice a3 n3 c3])
    (r0 : Rd w (.slice a0 n0 c0) (nus .u8 z0)) (r1 : Rd w (.slice a1 n1 c1) (nus .u8 z1)) (r2 : Rd w (.slice a2 n2 c2) (nus .u8 z2)) (r3 : Rd w (.slice a3 n3 c3) (nus .u8 z3))
    (h0 : a0 = none → c0 = 0) (h1 : a1 = none → c1 = 0) (h2 : a2 = none → c2 = 0) (h3 : a3 = none → c3 = 0) (l0 : z0.length = n0) (l1 : z1.length = n1) (l2 : z2.length = n2) (l3 : z3.length = n3) (hp : 0 < n0) (hm : n0 + n1 + n2 + n3 ≤ 100000) :
    Calls Try.prog 20 #[.slice (some ⟨b, 0, none⟩) 4 4] w fun e w' => ∃ x, e = .returned x ∧ w'.ownsRow w.heap.size 5 1 x (n0 + n1 + n2 + n3) (nus .u8 (z0 ++ (z1 ++ (z2 ++ z3)))) ∧ Below w.heap.size w w' := by
  have := concat_four b (fun j => match j with | 0 => a0 | 1 => a1 | 2 => a2 | _ => a3) (fun j => match j with | 0 => n0 | 1 => n1 | 2 => n2 | _ => n3) (fun j => match j with | 0 => c0 | 1 => c1 | 2 => c2 | _ => c3) (fun j => match j with | 0 => z0 | 1 => z1 | 2 => z2 | _ => z3) w
    (fun j hj => by match j, hj with | 0, _ => exact B.cell 0 | 1, _ => exact B.cell 1 | 2, _ => exact B.cell 2 | 3, _ => exact B.cell 3)
    (fun j hj => by match j, hj with | 0, _ => exact r0 | 1, _ => exact r1 | 2, _ => exact r2 | 3, _ => exact r3)
    (fun j hj => by match j, hj with | 0, _ => exact h0 | 1, _ => exact h1 | 2, _ => exact h2 | 3, _ => exact h3)
    (fun j hj => by match j, hj with | 0, _ => exact l0 | 1, _ => exact l1 | 2, _ => exact l2 | 3, _ => exact l3)
    (by simp only [csN]; omega) (by simp only [csN]; omega)
  simpa [csN, crN] using this
def tof (zs : List Nat) (six : Bool) (D : List Nat) (tp : Nat) : List Nat := if ok9 zs six D = true then to9 zs D tp else []
set_option maxRecDepth 100000 in
set_option maxHeartbeats 4000000 in
theorem to_any (v : Value) (zs : List Nat) (six : Bool) (D : List Nat) (tp : Nat) (w : World) (hr : Rd w v (nus .u8 zs)) (hb : ∀ c ∈ zs, c < 256) (hz : zs.length ≤ 65535) (hD : D.length = 16) (hbD : ∀ c ∈ D, c < 256) (ht : tp < 65536) :
    Calls Try.prog 8 #[v, .agg (dcells (cellsA six D) tp)] w fun e w' => ∃ x, e = .returned (.tuple #[x, .bool (ok9 zs six D)]) ∧ Rd w' x (nus .u8 (tof zs six D tp)) ∧ Below w.heap.size w w' := by
  have CF := Lib.hid (fun W (h : Rd W v (nus .u8 zs)) => fread_any v zs W h hb (.inl hz))
  have YVW : Hid ((vw zs).size = Array.size (ZcV : Array Value)) := vw_size zs
  have QVW := Lib.hid (i72.trans (congrArg some (vw_size zs).symm))
  have AVW := Lib.hid (vw_all zs)
  have CV := Lib.hid (fun W => valid_any six D hD hbD W)
  have K := Lib.hid (Below.refl w.heap.size w)
  have HR := Lib.hid hr
  have sD : (cellsA six D).size = 17 := by rw [cellsA_size, hD]
  obtain ⟨d17, dpart⟩ := dip_get (cellsA six D) tp sD
  have H0 := Lib.hid (dip_v6 six D tp)
  have ZDP := Lib.hid (i45.trans (congrArg some (dcells_size _ tp sD).symm))
  have hok : ok9 zs six D = (decide (rr zs = 0) && ((six == sixF zs) && vldA six D)) := rfl
  have hof : tof zs six D tp = if ok9 zs six D = true then to9 zs D tp else [] := rfl
  obtain ⟨a, cap, rfl, hlc, hlm⟩ := rd_shape hr
  by_cases h0 : rr zs = 0
  case neg =>
    have hgf : ok9 zs six D = false := by rw [hok, decide_eq_false h0]; rfl
    rw [hof, hgf, if_neg (by decide)]
    have g0 : ((rr zs : Int) == 0) = false := by rw [beq_eq_false_iff_ne]; omega
    have g1 : ((rr zs : Int) != 0) = true := by rw [bne_iff_ne]; omega
    have g2 : (rr zs == 0) = false := by rw [beq_eq_false_iff_ne]; omega
    clear hr hb hgf h0 hok hof d17 dpart CV
    generalize rr zs = r at *
    generalize vw zs = VW at *
    generalize zs.length = n at *
    generalize dcells (cellsA six D) tp = DP at *
    go_enter Try.func8, Try.ntmps8
    have hal := (Below.refl w.heap.size w).alloc (Nat.le_refl _) (.cells DP 28)
    replace K := Lib.hid (K.out.trans (hal.mono K.out.size))
    have HD := Lib.hid (Blk.new w 28 DP)
    clear hal
    go_upto_region 1 with fail
    have hzV1 : Hid ((w.alloc (.cells DP 28)).heap.size = w.heap.size + 1) := by show _ = _; simp only [World.size_alloc]
    generalize (w.alloc (.cells DP 28)) = V1 at *
    go_wp2_with fail
    refine (CF.out _ (HR.out.below K.out)).mono ?_
    rintro e V2 ⟨rfl, hy⟩
    replace K := Lib.hid (K.out.trans (hy.mono K.out.size))
    replace HD := Lib.hid (HD.out.below hy HD.out.lt)
    clear hy
    go_wp2_with (((with_reducible refine wpList_blk_store (op := ⟨none, .store 42 (.tmp 6) (.tmp 11), _, _, _, _⟩) ?sg1 42 (.tmp 6) (.tmp 11) ?so1 (V2.heap.size) VW ?sx1 ?sy1 (Blk.new V2 42 ZcV) YVW.out QVW.out AVW.out ?_); (case sg1 => rfl); (case so1 => rfl); (case sx1 => rfl); (case sy1 => rfl)))
    have qHDHV : w.heap.size < V2.heap.size := HD.out.lt
    intro V3 hA hF hB
    have hy := ((Below.refl V2.heap.size V2).alloc (Nat.le_refl _) (.cells ZcV 42)).trans (hB _ (Nat.le_refl _))
    replace K := Lib.hid (K.out.trans (hy.mono K.out.size))
    replace HD := Lib.hid (HD.out.below hy HD.out.lt)
    have HV := Lib.hid hA
    clear hA hF hB hy
    go_wp2
    go_ret2
    exact ⟨_, rfl, rd_nil _ _, K.out⟩
  have hV := view9 zs h0
  have c0 := hV.c0
  have G0 := Lib.hid c0
  rw [h0] at CF
  by_cases h1 : six = sixF zs
  case neg =>
    have hgf : ok9 zs six D = false := by
      rw [hok, show (six == sixF zs) = false from by rw [beq_eq_false_iff_ne]; exact h1]; simp
    rw [hof, hgf, if_neg (by decide)]
    have e1 : sixF zs = !six := by cases six <;> cases q : sixF zs <;> simp_all
    rw [e1] at G0
    have e2 : (six != !six) = true := by cases six <;> rfl
    have e3 : (six == !six) = false := by cases six <;> rfl
    clear hr hb hgf h0 hok hof d17 dpart CV h1 e1 c0 hV
    generalize vw zs = VW at *
    generalize zs.length = n at *
    generalize dcells (cellsA six D) tp = DP at *
    go_enter Try.func8, Try.ntmps8
    have hal := (Below.refl w.heap.size w).alloc (Nat.le_refl _) (.cells DP 28)
    replace K := Lib.hid (K.out.trans (hal.mono K.out.size))
    have HD := Lib.hid (Blk.new w 28 DP)
    clear hal
    go_upto_region 1 with fail
    have hzV1 : Hid ((w.alloc (.cells DP 28)).heap.size = w.heap.size + 1) := by show _ = _; simp only [World.size_alloc]
    generalize (w.alloc (.cells DP 28)) = V1 at *
    go_wp2_with fail
    refine (CF.out _ (HR.out.below K.out)).mono ?_
    rintro e V2 ⟨rfl, hy⟩
    replace K := Lib.hid (K.out.trans (hy.mono K.out.size))
    replace HD := Lib.hid (HD.out.below hy HD.out.lt)
    clear hy
    go_wp2_with (((with_reducible refine wpList_blk_store (op := ⟨none, .store 42 (.tmp 6) (.tmp 11), _, _, _, _⟩) ?sg2 42 (.tmp 6) (.tmp 11) ?so2 (V2.heap.size) VW ?sx2 ?sy2 (Blk.new V2 42 ZcV) YVW.out QVW.out AVW.out ?_); (case sg2 => rfl); (case so2 => rfl); (case sx2 => rfl); (case sy2 => rfl)))
    have qHDHV : w.heap.size < V2.heap.size := HD.out.lt
    intro V3 hA hF hB
    have hy := ((Below.refl V2.heap.size V2).alloc (Nat.le_refl _) (.cells ZcV 42)).trans (hB _ (Nat.le_refl _))
    replace K := Lib.hid (K.out.trans (hy.mono K.out.size))
    replace HD := Lib.hid (HD.out.below hy HD.out.lt)
    have HV := Lib.hid hA
    clear hA hF hB hy
    have L3 := (HD.out.cell 0).trans H0.out
    have L4 := (HV.out.cell 0).trans G0.out
    go_wp2
    go_ret2
    exact ⟨_, rfl, rd_nil _ _, K.out⟩
  subst h1
  by_cases h2 : vldA (sixF zs) D = true
  case neg =>
    have hgf : ok9 zs (sixF zs) D = false := by
      rw [hok, Bool.eq_false_iff.2 h2]; simp
    rw [hof, hgf, if_neg (by decide)]
    rw [Bool.eq_false_iff.2 h2] at CV
    have e2 : (sixF zs != sixF zs) = false := by simp
    have e3 : (sixF zs == sixF zs) = true := by simp
    have PD := Lib.hid dpart
    have ID := Lib.hid (i24.trans (congrArg some (show (17 : Nat) = (cellsA (sixF zs) D).toList.length by simp [sD])))
    unfold adr at CV
    clear hr hb hgf h0 hok hof d17 dpart c0 hV h2 sD
    generalize sixF zs = six at *
    generalize vw zs = VW at *
    generalize zs.length = n at *
    generalize dcells (cellsA six D) tp = DP at *
    generalize cellsA six D = DA at *
    go_enter Try.func8, Try.ntmps8
    have hal := (Below.refl w.heap.size w).alloc (Nat.le_refl _) (.cells DP 28)
    replace K := Lib.hid (K.out.trans (hal.mono K.out.size))
    have HD := Lib.hid (Blk.new w 28 DP)
    clear hal
    go_upto_region 1 with fail
    have hzV1 : Hid ((w.alloc (.cells DP 28)).heap.size = w.heap.size + 1) := by show _ = _; simp only [World.size_alloc]
    generalize (w.alloc (.cells DP 28)) = V1 at *
    go_wp2_with fail
    refine (CF.out _ (HR.out.below K.out)).mono ?_
    rintro e V2 ⟨rfl, hy⟩
    replace K := Lib.hid (K.out.trans (hy.mono K.out.size))
    replace HD := Lib.hid (HD.out.below hy HD.out.lt)
    clear hy
    go_wp2_with (((with_reducible refine wpList_blk_store (op := ⟨none, .store 42 (.tmp 6) (.tmp 11), _, _, _, _⟩) ?sg5 42 (.tmp 6) (.tmp 11) ?so5 (V2.heap.size) VW ?sx5 ?sy5 (Blk.new V2 42 ZcV) YVW.out QVW.out AVW.out ?_); (case sg5 => rfl); (case so5 => rfl); (case sx5 => rfl); (case sy5 => rfl)))
    have qHDHV : w.heap.size < V2.heap.size := HD.out.lt
    intro V3 hA hF hB
    have hy := ((Below.refl V2.heap.size V2).alloc (Nat.le_refl _) (.cells ZcV 42)).trans (hB _ (Nat.le_refl _))
    replace K := Lib.hid (K.out.trans (hy.mono K.out.size))
    replace HD := Lib.hid (HD.out.below hy HD.out.lt)
    have HV := Lib.hid hA
    clear hA hF hB hy
    have L6 := (HD.out.cell 0).trans H0.out
    have L7 := (HV.out.cell 0).trans G0.out
    have L8 : (loadVar 25 ⟨w.heap.size, 0, none⟩).run Try.prog V3 = .ok (.agg DA) V3 := by have h := run_part_load (P := Try.prog) 25 0 DA.toList _ HD.out PD.out Try.underlying25 rfl ID.out; rwa [Array.toArray_toList] at h
    replace L8 := Lib.hid L8
    go_wp2_with (((with_reducible refine wpList_load_want (op := ⟨some 25, .load 25 (.tmp 24), _, _, _, _⟩) ?wg8 25 (.tmp 24) ?wo8 ⟨w.heap.size, 0, none⟩ ?wx8 (.agg DA) L8.out ?_); (case wg8 => rfl); (case wo8 => rfl); (case wx8 => rfl)))
    clear L6 L7 L8
    refine (CV.out _).mono ?_
    rintro e V4 ⟨rfl, hy⟩
    replace K := Lib.hid (K.out.trans (hy.mono K.out.size))
    replace HD := Lib.hid (HD.out.below hy HD.out.lt)
    replace HV := Lib.hid (HV.out.below hy HV.out.lt)
    clear hy
    go_wp2
    go_ret2
    exact ⟨_, rfl, rd_nil _ _, K.out⟩
  have hgf : ok9 zs (sixF zs) D = true := by
    rw [hok, decide_eq_true h0, h2]; simp
  rw [hof, hgf, if_pos rfl]
  rw [h2] at CV
  have hF := frame9 zs h0
  have hP := sg9_ported zs D tp hb h0 hD ht
  have hG := gone4 (sixF zs) (pkt zs) D (pkt_lt zs hb) hF.hr hD h2
  have q1 := hF.hd0.low
  have q2 := hF.hd0.mid
  have q3 := hF.hd0.high
  have q4 := hF.pl
  have q5 := hF.nl
  have q6 := hF.n0
  obtain ⟨b, off, rfl, -⟩ := hr.cells (by omega)
  have hCH := (fun W (h : Rd W (.slice (some ⟨b, off, none⟩) zs.length cap) (nus .u8 zs)) => header_any _ zs D W h hb h0 hz hD hbD)
  have hCS := (fun W (h : Rd W (.slice (some ⟨b, off, none⟩) zs.length cap) (nus .u8 zs)) => newseg_any _ zs D tp W h hb h0 hz hD hbD ht)
  obtain ⟨n, hn⟩ : ∃ x, x = nN zs := ⟨_, rfl⟩
  obtain ⟨sg, hsg⟩ : ∃ x, x = nS zs := ⟨_, rfl⟩
  obtain ⟨en, hen⟩ : ∃ x, x = nE zs := ⟨_, rfl⟩
  obtain ⟨S, hS⟩ : ∃ x, x = fS (sixF zs) (pkt zs) := ⟨_, rfl⟩
  have eN : n = (net zs).1 := hn
  have eS : sg = n + S := by rw [hsg, hn, hS]; rfl
  have eE : en = n + fL (sixF zs) (pkt zs) := by rw [hen, hn]; rfl
  have hx1 : ((dsX (sixF zs) (pkt zs) D).take S).length = S := by rw [List.length_take, hG.len, hS]; omega
  have hx2 : (sg9 zs D tp).length = en - sg := by
    have : (sg9 zs D tp).length = (sgm zs).length := hP.len
    rw [this, hF.sl]; omega
  have hto : to9 zs D tp = zs.take n ++ ((dsX (sixF zs) (pkt zs) D).take S ++ (sg9 zs D tp ++ zs.drop en)) := by rw [hn, hS, hen]; rfl
  rw [hto]
  have hr1 := hr.front n (by omega)
  have hr2 := subP hr en (zs.length - en) (by omega)
  rw [List.take_of_length_le (by rw [List.length_drop]; omega)] at hr2
  have hy1 : (zs.take n).length = n := by rw [List.length_take]; omega
  have hy2 : (zs.drop en).length = zs.length - en := List.length_drop ..
  obtain ⟨P2, hP2⟩ : ∃ x, x = (if cap = en then some (⟨b, off, none⟩ : Addr) else some ⟨b, off + en, none⟩) := ⟨_, rfl⟩
  rw [← hP2] at hr2
  have hP3 : P2 = none → cap - en = 0 := by rw [hP2]; split <;> intro h <;> cases h
  have c1 := hV.c1
  have c3 := hV.c3
  rw [← hn] at c1
  rw [← hen] at c3
  rw [← hS] at hCH
  unfold adr at CV hCH
  have G1 := Lib.hid c1
  have G3 := Lib.hid c3
  have CH := Lib.hid hCH
  have CS := Lib.hid hCS
  have R1 := Lib.hid hr1
  have R2 := Lib.hid hr2
  have HY1 := Lib.hid hy1
  have HY2 := Lib.hid hy2
  have HX1 := Lib.hid hx1
  have HX2 := Lib.hid hx2
  have HP2 := Lib.hid hP2
  have HP3 := Lib.hid hP3
  have PD := Lib.hid dpart
  have ID := Lib.hid (i24.trans (congrArg some (show (17 : Nat) = (cellsA (sixF zs) D).toList.length by simp [sD])))
  have e2 : (sixF zs != sixF zs) = false := by simp
  have e3 : (sixF zs == sixF zs) = true := by simp
  have hn0 : 0 < n := by omega
  have hnc : n ≤ cap := by omega
  have hse : sg < en := by
    have h8 : 8 ≤ (sgm zs).length := by rcases fs_yes _ _ hF.fs0 with ⟨-, q, -⟩ | ⟨-, q, -⟩ <;> omega
    rw [hF.sl] at h8; omega
  have hel : en ≤ zs.length := by omega
  have hsum : n + S + (en - sg) + (zs.length - en) ≤ 100000 := by omega
  unfold maxLen at hlm
  clear hr hb hgf h0 hok hof d17 dpart c0 hV h2 sD hF hP hG q1 q2 q3 q4 q5 q6 hn hsg hen hS eN eS eE hx1 hx2 hto hr1 hr2 hy1 hy2 hP2 hP3 c1 c3 hCH hCS hD hbD ht hz
  generalize (dsX (sixF zs) (pkt zs) D).take S = X1 at *
  generalize sg9 zs D tp = X2 at *
  generalize zs.take n = X0 at *
  generalize zs.drop en = X3 at *
  generalize sixF zs = six at *
  generalize vw zs = VW at *
  generalize zs.length = ln at *
  generalize dcells (cellsA six D) tp = DP at *
  generalize cellsA six D = DA at *
  go_enter Try.func8, Try.ntmps8
  have hal := (Below.refl w.heap.size w).alloc (Nat.le_refl _) (.cells DP 28)
  replace K := Lib.hid (K.out.trans (hal.mono K.out.size))
  have HD := Lib.hid (Blk.new w 28 DP)
  clear hal
  go_upto_region 1 with fail
  have hzV1 : Hid ((w.alloc (.cells DP 28)).heap.size = w.heap.size + 1) := by show _ = _; simp only [World.size_alloc]
  generalize (w.alloc (.cells DP 28)) = V1 at *
  go_wp2_with fail
  refine (CF.out _ (HR.out.below K.out)).mono ?_
  rintro e V2 ⟨rfl, hy⟩
  replace K := Lib.hid (K.out.trans (hy.mono K.out.size))
  replace HD := Lib.hid (HD.out.below hy HD.out.lt)
  clear hy
  go_wp2_with (((with_reducible refine wpList_blk_store (op := ⟨none, .store 42 (.tmp 6) (.tmp 11), _, _, _, _⟩) ?sg9 42 (.tmp 6) (.tmp 11) ?so9 (V2.heap.size) VW ?sx9 ?sy9 (Blk.new V2 42 ZcV) YVW.out QVW.out AVW.out ?_); (case sg9 => rfl); (case so9 => rfl); (case sx9 => rfl); (case sy9 => rfl)))
  have qHDHV : w.heap.size < V2.heap.size := HD.out.lt
  intro V3 hA hF hB
  have hy := ((Below.refl V2.heap.size V2).alloc (Nat.le_refl _) (.cells ZcV 42)).trans (hB _ (Nat.le_refl _))
  replace K := Lib.hid (K.out.trans (hy.mono K.out.size))
  replace HD := Lib.hid (HD.out.below hy HD.out.lt)
  have HV := Lib.hid hA
  clear hA hF hB hy
  have L10 := (HD.out.cell 0).trans H0.out
  have L11 := (HV.out.cell 0).trans G0.out
  have L12 : (loadVar 25 ⟨w.heap.size, 0, none⟩).run Try.prog V3 = .ok (.agg DA) V3 := by have h := run_part_load (P := Try.prog) 25 0 DA.toList _ HD.out PD.out Try.underlying25 rfl ID.out; rwa [Array.toArray_toList] at h
  replace L12 := Lib.hid L12
  go_wp2_with (((with_reducible refine wpList_load_want (op := ⟨some 25, .load 25 (.tmp 24), _, _, _, _⟩) ?wg12 25 (.tmp 24) ?wo12 ⟨w.heap.size, 0, none⟩ ?wx12 (.agg DA) L12.out ?_); (case wg12 => rfl); (case wo12 => rfl); (case wx12 => rfl)))
  clear L10 L11 L12
  refine (CV.out _).mono ?_
  rintro e V4 ⟨rfl, hy⟩
  replace K := Lib.hid (K.out.trans (hy.mono K.out.size))
  replace HD := Lib.hid (HD.out.below hy HD.out.lt)
  replace HV := Lib.hid (HV.out.below hy HV.out.lt)
  clear hy
  go_wp2_with fail
  refine wp_region_held (S := (fun w' : World => Below (V4.heap.size) V4 w')) (by kernel_rfl) ?_
  change wpAnyH _ _ _ _ _ _ _ _ V4.drew
  have hy : Below V4.heap.size V4 V4.drew := (Below.refl _ _).drew
  have hE0 : Below (V4.heap.size) V4 V4.drew := (Below.refl _ _).drew
  clear hy
  generalize V4.drew = Y4x0 at hE0  ⊢
  have E0 := Lib.hid hE0
  clear hE0
  refine tkA 0 (?_) ?_ E0.out ?_
  rotate_left
  · (intro w1 hS; go_simp; try with_reducible rfl)
  simp only [Act.put, tS1, tS2, tS3]
  refine tkA 1 (?_) ?_ E0.out ?_
  rotate_left
  · (intro w1 hS; go_simp; try with_reducible rfl)
  simp only [Act.put, tS1, tS2, tS3]
  refine tkA 2 (?_) ?_ E0.out ?_
  rotate_left
  · (intro w1 hS; have hW := hS; have q := ((HV.out.below hW HV.out.lt).cell 1).trans G1.out; clear hW hS; go_simp; try with_reducible rfl)
  simp only [Act.put, tS1, tS2, tS3]
  refine tkA 3 (?_) ?_ E0.out ?_
  rotate_left
  · (intro w1 hS; have hW := hS; have q : (n : Int) ≤ (cap : Int) := (by omega); clear hW hS; go_simp; try with_reducible rfl)
  simp only [Act.put, tS1, tS2, tS3]
  refine tkA 4 (?_) ?_ E0.out ?_
  rotate_left
  · (intro w1 hS; go_simp; try with_reducible rfl)
  simp only [Act.put, tS1, tS2, tS3]
  refine tkA 5 (.agg VW) ?_ E0.out ?_
  · (intro w1 hS; have hW := hS; exact exec_load 42 (.tmp 6) rfl _ rfl _ (run_blk_load (P := Try.prog) 42 (V2.heap.size) _ (HV.out.below hW HV.out.lt) Try.underlying42 rfl QVW.out))
  simp only [Act.put, tS1, tS2, tS3]
  refine tkA 6 (?_) ?_ E0.out ?_
  rotate_left
  · (intro w1 hS; go_simp; try with_reducible rfl)
  simp only [Act.put, tS1, tS2, tS3]
  refine tkA 7 (.agg DA) ?_ E0.out ?_
  · (intro w1 hS; have hW := hS; exact exec_load 25 (.tmp 35) rfl _ rfl _ (by have h := run_part_load (P := Try.prog) 25 0 DA.toList _ (HD.out.below hW HD.out.lt) PD.out Try.underlying25 rfl ID.out; rwa [Array.toArray_toList] at h))
  simp only [Act.put, tS1, tS2, tS3]
  refine tkA 9 (?_) ?_ E0.out ?_
  rotate_left
  · (intro w1 hS; go_simp; try with_reducible rfl)
  simp only [Act.put, tS1, tS2, tS3]
  refine tkA 10 (.agg VW) ?_ E0.out ?_
  · (intro w1 hS; have hW := hS; exact exec_load 42 (.tmp 6) rfl _ rfl _ (run_blk_load (P := Try.prog) 42 (V2.heap.size) _ (HV.out.below hW HV.out.lt) Try.underlying42 rfl QVW.out))
  simp only [Act.put, tS1, tS2, tS3]
  refine tkA 11 (.agg DP) ?_ E0.out ?_
  · (intro w1 hS; have hW := hS; exact exec_load 28 (.tmp 3) rfl _ rfl _ (run_blk_load (P := Try.prog) 28 (w.heap.size) _ (HD.out.below hW HD.out.lt) Try.underlying28 rfl ZDP.out))
  simp only [Act.put, tS1, tS2, tS3]
  refine tkA 13 (?_) ?_ E0.out ?_
  rotate_left
  · (intro w1 hS; go_simp; try with_reducible rfl)
  simp only [Act.put, tS1, tS2, tS3]
  refine tkA 14 (?_) ?_ E0.out ?_
  rotate_left
  · (intro w1 hS; go_simp; try with_reducible rfl)
  simp only [Act.put, tS1, tS2, tS3]
  refine tkA 15 (?_) ?_ E0.out ?_
  rotate_left
  · (intro w1 hS; have hW := hS; have q := ((HV.out.below hW HV.out.lt).cell 3).trans G3.out; clear hW hS; go_simp; try with_reducible rfl)
  simp only [Act.put, tS1, tS2, tS3]
  refine tkA 16 (?_) ?_ E0.out ?_
  rotate_left
  · (intro w1 hS; have hW := hS; have q : (en : Int) ≤ (ln : Int) := (by omega); have q2 := HP2.out.symm; clear hW hS; go_simp; try with_reducible rfl)
  simp only [Act.put, tS1, tS2, tS3]
  refine tkO 8 (fun KK hK => ?_)
  go_simp
  refine (CH.out Y4x0 (HR.out.below (K.out.trans (E0.out.mono K.out.size)))).mono ?_
  rintro e Y4x1 ⟨g1, k1, rfl, rz1, hy⟩
  have E1 := Lib.hid (E0.out.trans (hy.mono E0.out.size))
  have C1 := Lib.hid E1.out
  have Z1 := Lib.hid (rz1)
  clear rz1
  clear hy E0
  refine hK.out _ _ C1.out (fun _ => ?_)
  clear hK KK
  refine wpAnyH_mono (S' := (fun w' : World => Below Y4x1.heap.size Y4x1 w')) (fun w1 h => C1.out.trans (h.mono C1.out.size)) _ _ _ _ ?_
  clear C1
  try simp only [Act.put, tS1, tS2, tS3]
  refine tkO 12 (fun KK hK => ?_)
  go_simp
  refine (CS.out Y4x1 (HR.out.below (K.out.trans (E1.out.mono K.out.size)))).mono ?_
  rintro e Y4x2 ⟨z2, rfl, rz2, hy⟩
  replace Z1 := Lib.hid (Z1.out.below hy)
  have E2 := Lib.hid (E1.out.trans (hy.mono E1.out.size))
  have C2 := Lib.hid hy
  have Z2 := Lib.hid (rz2)
  obtain ⟨a2, k2, ez2, -, -⟩ := rd_shape Z2.out
  rw [HX2.out] at ez2
  subst ez2
  obtain ⟨b2, o2, rfl, -⟩ := Z2.out.cells (by omega)
  clear rz2
  clear hy E1
  refine hK.out _ _ C2.out (fun _ => ?_)
  clear hK KK
  refine wpAnyH_mono (S' := (fun w' : World => Below Y4x2.heap.size Y4x2 w')) (fun w1 h => C2.out.trans (h.mono C2.out.size)) _ _ _ _ ?_
  clear C2
  try simp only [Act.put, tS1, tS2, tS3]
  refine tkO 17 (fun KK hK => ?_)
  go_simp
  have hy := (Below.refl Y4x2.heap.size Y4x2).alloc (Nat.le_refl _) (.cells #[Value.slice (some ⟨b, off, none⟩) n cap, Value.slice (some ⟨g1, 0, none⟩) S k1, Value.slice (some ⟨b2, o2, none⟩) (en - sg) k2, Value.slice P2 (ln - en) (cap - en)] 22)
  have BB := Blk.new Y4x2 22 #[Value.slice (some ⟨b, off, none⟩) n cap, Value.slice (some ⟨g1, 0, none⟩) S k1, Value.slice (some ⟨b2, o2, none⟩) (en - sg) k2, Value.slice P2 (ln - en) (cap - en)]
  obtain ⟨gb, hgb⟩ : ∃ g, g = Y4x2.heap.size := ⟨_, rfl⟩
  rw [← hgb] at BB
  rw [← hgb]
  generalize Y4x2.alloc (.cells #[Value.slice (some ⟨b, off, none⟩) n cap, Value.slice (some ⟨g1, 0, none⟩) S k1, Value.slice (some ⟨b2, o2, none⟩) (en - sg) k2, Value.slice P2 (ln - en) (cap - en)] 22) = Y4x3 at BB hy ⊢
  clear hgb
  replace BB := Lib.hid BB
  replace Z1 := Lib.hid (Z1.out.below hy)
  replace Z2 := Lib.hid (Z2.out.below hy)
  have E3 := Lib.hid (E2.out.trans (hy.mono E2.out.size))
  have C3 := Lib.hid hy
  clear hy E2
  refine hK.out _ _ C3.out (fun _ => ?_)
  clear hK KK
  refine wpAnyH_mono (S' := (fun w' : World => Below Y4x3.heap.size Y4x3 w')) (fun w1 h => C3.out.trans (h.mono C3.out.size)) _ _ _ _ ?_
  clear C3
  try simp only [Act.put, tS1, tS2, tS3]
  refine tkO 18 (fun KK hK => ?_)
  go_simp
  have q0 := K.out.trans (E3.out.mono K.out.size)
  refine (concat_4 gb (some ⟨b, off, none⟩) (some ⟨g1, 0, none⟩) (some ⟨b2, o2, none⟩) P2 n S (en - sg) (ln - en) cap k1 k2 (cap - en) X0 X1 X2 X3 Y4x3 BB.out (R1.out.below q0) Z1.out Z2.out (R2.out.below q0) (by intro e; cases e) (by intro e; cases e) (by intro e; cases e) HP3.out HY1.out HX1.out HX2.out HY2.out hn0 hsum).mono ?_
  rintro e Y4x4 ⟨x, rfl, ox, hy⟩
  clear q0
  have OX := Lib.hid (Rd.own ox)
  clear ox BB
  replace Z1 := Lib.hid (Z1.out.below hy)
  replace Z2 := Lib.hid (Z2.out.below hy)
  have E4 := Lib.hid (E3.out.trans (hy.mono E3.out.size))
  have C4 := Lib.hid hy
  clear hy E3
  refine hK.out _ _ C4.out (fun _ => ?_)
  clear hK KK
  refine wpAnyH_mono (S' := (fun w' : World => Below Y4x4.heap.size Y4x4 w')) (fun w1 h => C4.out.trans (h.mono C4.out.size)) _ _ _ _ ?_
  clear C4
  try simp only [Act.put, tS1, tS2, tS3]
  refine tkA 19 (?_) ?_ (Below.refl _ _) ?_
  rotate_left
  · (intro w1 hS; go_simp; try with_reducible rfl)
  simp only [Act.put, tS1, tS2, tS3]
  refine tkA 20 (?_) ?_ (Below.refl _ _) ?_
  rotate_left
  · (intro w1 hS; go_simp; try with_reducible rfl)
  simp only [Act.put, tS1, tS2, tS3]
  refine wpAnyH_done (by kernel_rfl) ?_ _
  have hy := E4.out
  replace K := Lib.hid (K.out.trans (hy.mono K.out.size))
  replace HD := Lib.hid (HD.out.below hy HD.out.lt)
  replace HV := Lib.hid (HV.out.below hy HV.out.lt)
  clear hy E4
  go_wp2
  go_ret2
  exact ⟨_, rfl, OX.out, K.out⟩
end Go.Proofs.Ythionipmohbnhaa
namespace Go.Proofs.Ythionipmohbnhaa
open Go.RowKit
theorem Try.info3 : (Try.prog.info? 3).map (fun i => (i.zero, i.size, i.bytes)) = some (some (.int .i64 0), 1, 8) := by kernel_rfl
def dfp (a b : List Nat) (i : Nat) : Bool := decide (a.length ≤ i) || (decide (b.length ≤ i) || decide (a.getD i 0 ≠ b.getD i 0))
def dif (a b : List Nat) (k : Nat) : List Nat := (List.range k).filter (dfp a b)
def difs (a b : List Nat) : List Nat := dif a b (max a.length b.length)
theorem dif_yes (a b : List Nat) (k : Nat) (h : dfp a b k = true) : dif a b (k + 1) = dif a b k ++ [k] := by
  unfold dif; rw [List.range_succ, List.filter_append]; simp [h]
theorem dif_no (a b : List Nat) (k : Nat) (h : dfp a b k = false) : dif a b (k + 1) = dif a b k := by
  unfold dif; rw [List.range_succ, List.filter_append]; simp [h]
theorem dif_len (a b : List Nat) (k : Nat) : (dif a b k).length ≤ k := by
  have := List.length_filter_le (dfp a b) (List.range k)
  rwa [List.length_range] at this
theorem dif_mem (a b : List Nat) (k i : Nat) : i ∈ dif a b k ↔ i < k ∧ dfp a b i = true := by simp [dif]
theorem own_nilI (w : World) (base : Nat) (e : TypeId) : w.ownsRow base e 1 (.slice none 0 0) (dif [] [] 0).length (nus .i64 []) := ⟨by simp [nus, dif], .inl ⟨rfl, rfl⟩⟩
theorem cell_lt {w : World} {b o : Nat} {v : Value} (h : w.cell? ⟨b, o, none⟩ = some v) : b < w.heap.size := by
  rcases Nat.lt_or_ge b w.heap.size with q | q
  · exact q
  · simp [World.cell?, Array.getElem?_eq_none q] at h
theorem wpList_app_int {w : World} {ops : Array Oper} {rest : List Oper} {o : Oper} {a : Act} {Q : Exit → Act → World → Prop} (hgd : o.guard = none) (s x : Operand)
    (ho : o.op = .call { callee := .builtin .append, args := #[s, x], argTypes := #[32, 32] })
    (base : Nat) (v : Value) (n : Nat) (zs : List Nat) (k : Nat) (hs : a.eval s = v) (hown : w.ownsRow base 3 1 v n (nus .i64 zs)) (g : Nat) (hx : a.eval x = .slice (some ⟨g, 0, none⟩) 1 1)
    (hc : w.cell? ⟨g, 0, none⟩ = some (.int .i64 (k : Int))) (hlen : n ≤ 1000000) (hbase : base ≤ w.heap.size)
    (h : ∀ v' w', w'.ownsRow base 3 1 v' (n + 1) (nus .i64 (zs ++ [k])) → w.grownBy w' v.ownBlock → wpList Try.prog ops Q rest (a.put o.dst v') w') :
    wpList Try.prog ops Q (o :: rest) a w := by
  obtain ⟨i0, hi, hz0, hz1, hz2⟩ := info_parts Try.info3
  refine wpList_append_own w hgd s x 32 ho base 3 i0 (.int .i64 0) 1 8 Try.underlying32 hi hz0 hz1 hz2 rfl (by decide) v n (nus .i64 zs) hs hown ⟨g, 0, none⟩ 1 1 [.int .i64 (k : Int)] hx rfl ?_ ?_ (by unfold maxLen; omega) (by omega) hbase ?_
  · intro j u hj
    match j, hj with
    | 0, hj => simp at hj; subst hj; simpa [Addr.add] using hc
    | j + 1, hj => simp at hj
  · intro u hu; simp at hu; subst hu; rfl
  · intro v' w' h1 h2 _
    exact h v' w' (by rw [nus_append]; exact h1) h2
set_option maxRecDepth 100000 in
set_option maxHeartbeats 4000000 in
theorem differs_any (va vb : Value) (A B : List Nat) (w : World) (ha : Rd w va (nus .u8 A)) (hb : Rd w vb (nus .u8 B)) (hA : A.length ≤ 3000) (hB : B.length ≤ 3000) :
    Calls Try.prog 11 #[va, vb] w fun e w' => ∃ x, e = .returned x ∧ w'.ownsRow w.heap.size 3 1 x (difs A B).length (nus .i64 (difs A B)) ∧ Below w.heap.size w w' := by
  obtain ⟨a1, c1, rfl, h1, h1m⟩ := rd_shape ha
  obtain ⟨a2, c2, rfl, h2, h2m⟩ := rd_shape hb
  obtain ⟨la, hla⟩ : ∃ n, n = A.length := ⟨_, rfl⟩
  obtain ⟨lb, hlb⟩ : ∃ n, n = B.length := ⟨_, rfl⟩
  obtain ⟨m, hm⟩ : ∃ m, m = max A.length B.length := ⟨_, rfl⟩
  have hmN : m = max la lb := by omega
  have HD : Hid (difs A B = dif A B m) := by show difs A B = _; rw [hm]; rfl
  have R1 := Lib.hid ha
  have R2 := Lib.hid hb
  rw [← hla] at R1 h1 hA ⊢
  rw [← hlb] at R2 h2 hB ⊢
  have HA := Lib.hid hla
  have HB := Lib.hid hlb
  have HN := Lib.hid hmN
  have hm3 : m ≤ 3000 := by omega
  have hm4 : max (la : Int) (lb : Int) = (m : Int) := by omega
  have hm1 : la ≤ m := by omega
  have hm2 : lb ≤ m := by omega
  have HX := Lib.hid hm4
  clear ha hb hm hmN hla hlb hm4
  rw [HD.out]
  go_enter Try.func11, Try.ntmps11
  go_upto_region 2 with fail
  go_cut [11, 12] (fun v z wx => v = .int .i64 (m : Int) ∧ z = .int .i64 0 ∧ wx = w)
  case first =>
    go_wp2_with fail
    all_goals go_meet
    all_goals exact ⟨by first | rfl | (congr 1 <;> (have := HX.out; omega)), rfl, rfl⟩
  case rest =>
    obtain ⟨rfl, rfl, hw⟩ := hcut
    have hw := hw.symm
    subst hw
    go_wp2_with fail
    go_loopw [5, 12] (fun x i wr => ∃ k : Nat, k ≤ m ∧ i = .int .i64 (k : Int) ∧ wr.ownsRow w.heap.size 3 1 x (dif A B k).length (nus .i64 (dif A B k)) ∧ Below w.heap.size w wr) (fun _ i _ => m - (intOf i).toNat)
    case atStart => exact ⟨0, Nat.zero_le _, rfl, own_nilI _ _ _, Below.refl _ _⟩
    case round =>
      obtain ⟨k, hk, rfl, ho, hy⟩ := hrel
      have O := Lib.hid ho
      have L := Lib.hid hy
      clear ho hy
      by_cases hkm : k < m
      · have hq1 := dif_len A B k
        have hkw : IntKind.i64.wrap ((k : Int) + 1) = ((k + 1 : Nat) : Int) := by rw [IntKind.wrap_i64]; omega
        go_upto_region 5 with fail
        go_cut [35] (fun v wx => v = .bool (dfp A B k) ∧ Below wr.heap.size wr wx)
        case first =>
          by_cases ha : la ≤ k
          · have HP : Hid (dfp A B k = true) := by show _ = true; unfold dfp; rw [← HA.out, decide_eq_true ha]; simp
            have hds : decide ((la : Int) ≤ (k : Int)) = true := decide_eq_true (by omega)
            have hdt : decide (la ≤ k) = true := decide_eq_true ha
            have KX := Lib.hid (Below.refl wr.heap.size wr)
            go_wp2_with fail
            refine wp_region_held (S := (fun w' : World => Below (wr.heap.size) wr w')) (by kernel_rfl) ?_
            change wpAnyH _ _ _ _ _ _ _ _ wr.drew
            have hy : Below wr.heap.size wr wr.drew := (Below.refl _ _).drew
            have hE0 : Below (wr.heap.size) wr wr.drew := (Below.refl _ _).drew
            clear hy
            generalize wr.drew = Y5x0 at hE0  ⊢
            have E0 := Lib.hid hE0
            clear hE0
            refine tkA 0 (?_) ?_ E0.out ?_
            rotate_left
            · (intro w1 hS; go_simp; try with_reducible rfl)
            simp only [Act.put, tS1, tS2, tS3]
            refine tkA 1 (?_) ?_ E0.out ?_
            rotate_left
            · (intro w1 hS; go_simp; try with_reducible rfl)
            simp only [Act.put, tS1, tS2, tS3]
            refine tkA 2 (?_) ?_ E0.out ?_
            rotate_left
            · (intro w1 hS; go_simp; try with_reducible rfl)
            simp only [Act.put, tS1, tS2, tS3]
            refine tkA 3 (?_) ?_ E0.out ?_
            rotate_left
            · (intro w1 hS; go_simp; try with_reducible rfl)
            simp only [Act.put, tS1, tS2, tS3]
            refine tkA 4 (?_) ?_ E0.out ?_
            rotate_left
            · (intro w1 hS; go_simp; try with_reducible rfl)
            simp only [Act.put, tS1, tS2, tS3]
            refine tkN 5 E0.out ?_
            simp only [Act.put, tS1, tS2, tS3]
            refine tkN 6 E0.out ?_
            simp only [Act.put, tS1, tS2, tS3]
            refine tkN 7 E0.out ?_
            simp only [Act.put, tS1, tS2, tS3]
            refine tkN 8 E0.out ?_
            simp only [Act.put, tS1, tS2, tS3]
            refine tkA 9 (?_) ?_ E0.out ?_
            rotate_left
            · (intro w1 hS; go_simp; try with_reducible rfl)
            simp only [Act.put, tS1, tS2, tS3]
            refine tkA 10 (?_) ?_ E0.out ?_
            rotate_left
            · (intro w1 hS; go_simp; try with_reducible rfl)
            simp only [Act.put, tS1, tS2, tS3]
            refine tkN 11 E0.out ?_
            simp only [Act.put, tS1, tS2, tS3]
            refine tkN 12 E0.out ?_
            simp only [Act.put, tS1, tS2, tS3]
            refine tkN 13 E0.out ?_
            simp only [Act.put, tS1, tS2, tS3]
            refine tkN 14 E0.out ?_
            simp only [Act.put, tS1, tS2, tS3]
            refine tkN 15 E0.out ?_
            simp only [Act.put, tS1, tS2, tS3]
            refine tkN 16 E0.out ?_
            simp only [Act.put, tS1, tS2, tS3]
            refine tkN 17 E0.out ?_
            simp only [Act.put, tS1, tS2, tS3]
            refine tkN 18 E0.out ?_
            simp only [Act.put, tS1, tS2, tS3]
            refine tkN 19 E0.out ?_
            simp only [Act.put, tS1, tS2, tS3]
            refine tkA 20 (?_) ?_ E0.out ?_
            rotate_left
            · (intro w1 hS; go_simp; try with_reducible rfl)
            simp only [Act.put, tS1, tS2, tS3]
            refine wpAnyH_done (by kernel_rfl) ?_ _
            have hy := E0.out
            replace KX := Lib.hid (KX.out.trans (hy.mono KX.out.size))
            clear hy E0
            go_wp2
            go_meet
            exact ⟨by rw [HP.out], KX.out⟩
          have hds : decide ((la : Int) ≤ (k : Int)) = false := decide_eq_false (by omega)
          have hdt : decide (la ≤ k) = false := decide_eq_false ha
          by_cases hc : lb ≤ k
          · have HP : Hid (dfp A B k = true) := by show _ = true; unfold dfp; rw [← HB.out, decide_eq_true hc]; simp
            have hes : decide ((lb : Int) ≤ (k : Int)) = true := decide_eq_true (by omega)
            have het : decide (lb ≤ k) = true := decide_eq_true hc
            have KX := Lib.hid (Below.refl wr.heap.size wr)
            go_wp2_with fail
            refine wp_region_held (S := (fun w' : World => Below (wr.heap.size) wr w')) (by kernel_rfl) ?_
            change wpAnyH _ _ _ _ _ _ _ _ wr.drew
            have hy : Below wr.heap.size wr wr.drew := (Below.refl _ _).drew
            have hE0 : Below (wr.heap.size) wr wr.drew := (Below.refl _ _).drew
            clear hy
            generalize wr.drew = Y5x0 at hE0  ⊢
            have E0 := Lib.hid hE0
            clear hE0
            refine tkA 0 (?_) ?_ E0.out ?_
            rotate_left
            · (intro w1 hS; go_simp; try with_reducible rfl)
            simp only [Act.put, tS1, tS2, tS3]
            refine tkA 1 (?_) ?_ E0.out ?_
            rotate_left
            · (intro w1 hS; go_simp; try with_reducible rfl)
            simp only [Act.put, tS1, tS2, tS3]
            refine tkA 2 (?_) ?_ E0.out ?_
            rotate_left
            · (intro w1 hS; go_simp; try with_reducible rfl)
            simp only [Act.put, tS1, tS2, tS3]
            refine tkA 3 (?_) ?_ E0.out ?_
            rotate_left
            · (intro w1 hS; go_simp; try with_reducible rfl)
            simp only [Act.put, tS1, tS2, tS3]
            refine tkA 4 (?_) ?_ E0.out ?_
            rotate_left
            · (intro w1 hS; go_simp; try with_reducible rfl)
            simp only [Act.put, tS1, tS2, tS3]
            refine tkA 5 (?_) ?_ E0.out ?_
            rotate_left
            · (intro w1 hS; go_simp; try with_reducible rfl)
            simp only [Act.put, tS1, tS2, tS3]
            refine tkA 6 (?_) ?_ E0.out ?_
            rotate_left
            · (intro w1 hS; go_simp; try with_reducible rfl)
            simp only [Act.put, tS1, tS2, tS3]
            refine tkA 7 (?_) ?_ E0.out ?_
            rotate_left
            · (intro w1 hS; go_simp; try with_reducible rfl)
            simp only [Act.put, tS1, tS2, tS3]
            refine tkA 8 (?_) ?_ E0.out ?_
            rotate_left
            · (intro w1 hS; go_simp; try with_reducible rfl)
            simp only [Act.put, tS1, tS2, tS3]
            refine tkA 9 (?_) ?_ E0.out ?_
            rotate_left
            · (intro w1 hS; go_simp; try with_reducible rfl)
            simp only [Act.put, tS1, tS2, tS3]
            refine tkA 10 (?_) ?_ E0.out ?_
            rotate_left
            · (intro w1 hS; go_simp; try with_reducible rfl)
            simp only [Act.put, tS1, tS2, tS3]
            refine tkN 11 E0.out ?_
            simp only [Act.put, tS1, tS2, tS3]
            refine tkN 12 E0.out ?_
            simp only [Act.put, tS1, tS2, tS3]
            refine tkN 13 E0.out ?_
            simp only [Act.put, tS1, tS2, tS3]
            refine tkN 14 E0.out ?_
            simp only [Act.put, tS1, tS2, tS3]
            refine tkN 15 E0.out ?_
            simp only [Act.put, tS1, tS2, tS3]
            refine tkN 16 E0.out ?_
            simp only [Act.put, tS1, tS2, tS3]
            refine tkN 17 E0.out ?_
            simp only [Act.put, tS1, tS2, tS3]
            refine tkN 18 E0.out ?_
            simp only [Act.put, tS1, tS2, tS3]
            refine tkN 19 E0.out ?_
            simp only [Act.put, tS1, tS2, tS3]
            refine tkA 20 (?_) ?_ E0.out ?_
            rotate_left
            · (intro w1 hS; go_simp; try with_reducible rfl)
            simp only [Act.put, tS1, tS2, tS3]
            refine wpAnyH_done (by kernel_rfl) ?_ _
            have hy := E0.out
            replace KX := Lib.hid (KX.out.trans (hy.mono KX.out.size))
            clear hy E0
            go_wp2
            go_meet
            exact ⟨by rw [HP.out], KX.out⟩
          have hes : decide ((lb : Int) ≤ (k : Int)) = false := decide_eq_false (by omega)
          have het : decide (lb ≤ k) = false := decide_eq_false hc
          have ka : k < la := by omega
          have kc : k < lb := by omega
          obtain ⟨b1, o1, rfl, q1⟩ := R1.out.cells (by omega)
          obtain ⟨b2, o2, rfl, q2⟩ := R2.out.cells (by omega)
          have C1 := Lib.hid ((L.out.cell (p := ⟨b1, o1 + k, none⟩) (cell_lt (q1 k ka))).trans (q1 k ka))
          have C2 := Lib.hid ((L.out.cell (p := ⟨b2, o2 + k, none⟩) (cell_lt (q2 k kc))).trans (q2 k kc))
          have B1 := Lib.hid (cell_lt C1.out)
          have B2 := Lib.hid (cell_lt C2.out)
          clear q1 q2
          have HPX : Hid (dfp A B k = decide (A.getD k 0 ≠ B.getD k 0)) := by
            show _ = _
            unfold dfp; rw [← HA.out, ← HB.out, hdt, het]; rfl
          generalize A.getD k 0 = x at *
          generalize B.getD k 0 = y at *
          have ki : (k : Int) < (la : Int) := by omega
          have kj : (k : Int) < (lb : Int) := by omega
          obtain ⟨r, hr⟩ : ∃ r, r = decide (x ≠ y) := ⟨_, rfl⟩
          have e2 : ((x : Int) != (y : Int)) = r := by rw [hr]; by_cases q : x = y <;> simp [q]; omega
          have HP : Hid (dfp A B k = r) := by show _ = _; rw [HPX.out, hr]
          clear hr HPX
          have KX := Lib.hid (Below.refl wr.heap.size wr)
          go_wp2_with fail
          refine wp_region_held (S := (fun w' : World => Below (wr.heap.size) wr w')) (by kernel_rfl) ?_
          change wpAnyH _ _ _ _ _ _ _ _ wr.drew
          have hy : Below wr.heap.size wr wr.drew := (Below.refl _ _).drew
          have hE0 : Below (wr.heap.size) wr wr.drew := (Below.refl _ _).drew
          clear hy
          generalize wr.drew = Y5x0 at hE0  ⊢
          have E0 := Lib.hid hE0
          clear hE0
          refine tkA 0 (?_) ?_ E0.out ?_
          rotate_left
          · (intro w1 hS; go_simp; try with_reducible rfl)
          simp only [Act.put, tS1, tS2, tS3]
          refine tkA 1 (?_) ?_ E0.out ?_
          rotate_left
          · (intro w1 hS; go_simp; try with_reducible rfl)
          simp only [Act.put, tS1, tS2, tS3]
          refine tkA 2 (?_) ?_ E0.out ?_
          rotate_left
          · (intro w1 hS; go_simp; try with_reducible rfl)
          simp only [Act.put, tS1, tS2, tS3]
          refine tkA 3 (?_) ?_ E0.out ?_
          rotate_left
          · (intro w1 hS; go_simp; try with_reducible rfl)
          simp only [Act.put, tS1, tS2, tS3]
          refine tkA 4 (?_) ?_ E0.out ?_
          rotate_left
          · (intro w1 hS; go_simp; try with_reducible rfl)
          simp only [Act.put, tS1, tS2, tS3]
          refine tkA 5 (?_) ?_ E0.out ?_
          rotate_left
          · (intro w1 hS; go_simp; try with_reducible rfl)
          simp only [Act.put, tS1, tS2, tS3]
          refine tkA 6 (?_) ?_ E0.out ?_
          rotate_left
          · (intro w1 hS; go_simp; try with_reducible rfl)
          simp only [Act.put, tS1, tS2, tS3]
          refine tkA 7 (?_) ?_ E0.out ?_
          rotate_left
          · (intro w1 hS; go_simp; try with_reducible rfl)
          simp only [Act.put, tS1, tS2, tS3]
          refine tkA 8 (?_) ?_ E0.out ?_
          rotate_left
          · (intro w1 hS; go_simp; try with_reducible rfl)
          simp only [Act.put, tS1, tS2, tS3]
          refine tkA 9 (?_) ?_ E0.out ?_
          rotate_left
          · (intro w1 hS; go_simp; try with_reducible rfl)
          simp only [Act.put, tS1, tS2, tS3]
          refine tkA 10 (?_) ?_ E0.out ?_
          rotate_left
          · (intro w1 hS; go_simp; try with_reducible rfl)
          simp only [Act.put, tS1, tS2, tS3]
          refine tkA 11 (?_) ?_ E0.out ?_
          rotate_left
          · (intro w1 hS; go_simp; try with_reducible rfl)
          simp only [Act.put, tS1, tS2, tS3]
          refine tkA 12 (?_) ?_ E0.out ?_
          rotate_left
          · (intro w1 hS; go_simp; try with_reducible rfl)
          simp only [Act.put, tS1, tS2, tS3]
          refine tkA 13 (?_) ?_ E0.out ?_
          rotate_left
          · (intro w1 hS; go_simp; try with_reducible rfl)
          simp only [Act.put, tS1, tS2, tS3]
          refine tkA 14 (?_) ?_ E0.out ?_
          rotate_left
          · (intro w1 hS; have hW := hS; have q := (hW.cell (p := ⟨b1, o1 + k, none⟩) B1.out).trans C1.out; clear hW hS; go_simp; try with_reducible rfl)
          simp only [Act.put, tS1, tS2, tS3]
          refine tkA 15 (?_) ?_ E0.out ?_
          rotate_left
          · (intro w1 hS; go_simp; try with_reducible rfl)
          simp only [Act.put, tS1, tS2, tS3]
          refine tkA 16 (?_) ?_ E0.out ?_
          rotate_left
          · (intro w1 hS; go_simp; try with_reducible rfl)
          simp only [Act.put, tS1, tS2, tS3]
          refine tkA 17 (?_) ?_ E0.out ?_
          rotate_left
          · (intro w1 hS; go_simp; try with_reducible rfl)
          simp only [Act.put, tS1, tS2, tS3]
          refine tkA 18 (?_) ?_ E0.out ?_
          rotate_left
          · (intro w1 hS; have hW := hS; have q := (hW.cell (p := ⟨b2, o2 + k, none⟩) B2.out).trans C2.out; clear hW hS; go_simp; try with_reducible rfl)
          simp only [Act.put, tS1, tS2, tS3]
          refine tkA 19 (?_) ?_ E0.out ?_
          rotate_left
          · (intro w1 hS; go_simp; try with_reducible rfl)
          simp only [Act.put, tS1, tS2, tS3]
          refine tkA 20 (?_) ?_ E0.out ?_
          rotate_left
          · (intro w1 hS; go_simp; try with_reducible rfl)
          simp only [Act.put, tS1, tS2, tS3]
          refine wpAnyH_done (by kernel_rfl) ?_ _
          have hy := E0.out
          replace KX := Lib.hid (KX.out.trans (hy.mono KX.out.size))
          clear hy E0
          go_wp2
          go_meet
          exact ⟨by rw [HP.out], KX.out⟩
        case rest =>
          obtain ⟨rfl, hy⟩ := hcut
          replace O := Lib.hid (row_under O.out hy)
          replace L := Lib.hid (L.out.trans (hy.mono L.out.size))
          clear hy
          by_cases hd : dfp A B k = true
          · have HP := Lib.hid (dif_yes A B k hd)
            rw [hd]
            clear hd
            go_upto_region 6 with fail
            have hal := (Below.refl wc.heap.size wc).alloc (Nat.le_refl _) (.cells #[.int .i64 (k : Int)] 3)
            have O1 := Lib.hid (row_under O.out hal)
            have L1 := Lib.hid (L.out.trans (hal.mono L.out.size))
            have CG := Lib.hid (show (wc.alloc (.cells #[.int .i64 (k : Int)] 3)).cell? ⟨wc.heap.size, 0, none⟩ = some (.int .i64 (k : Int)) from (Boxed.new wc 3 (.int .i64 (k : Int))).cell)
            clear hal O L
            go_wp2_with (first | (at_builtin; refine wpList_app_int rfl (.tmp 36) (.tmp 38) rfl w.heap.size _ _ (dif A B k) k rfl O1.out _ rfl CG.out ?ca ?cb ?_))
            case ca => omega
            case cb => have := L1.out.size; omega
            intro v2 w2 o2 g2
            have L2 := Lib.hid (L1.out.grown g2 L1.out.size (fun k e => (O1.out.lt k e).1))
            have O2 : Hid (w2.ownsRow w.heap.size 3 1 v2 (dif A B (k + 1)).length (nus .i64 (dif A B (k + 1)))) := by show World.ownsRow _ _ _ _ _ _ _; rw [HP.out, List.length_append]; exact o2
            clear o2 g2 O1 L1 CG HP
            go_wp2
            go_roundw
            case rel => exact ⟨k + 1, by omega, by go_num, O2.out, L2.out⟩
            case measure => simp [intOf]; omega
          · have hd : dfp A B k = false := by simpa using hd
            have HP := Lib.hid (dif_no A B k hd)
            rw [hd]
            clear hd
            go_wp2
            go_roundw
            case rel => exact ⟨k + 1, by omega, by go_num, by rw [HP.out]; exact O.out, L.out⟩
            case measure => simp [intOf]; omega
      · obtain rfl : m = k := by omega
        clear hkm hk
        go_wp2
        go_ret
        exact ⟨_, rfl, O.out, L.out⟩
end Go.Proofs.Ythionipmohbnhaa
namespace Go.Proofs.Ythionipmohbnhaa
open Go.RowKit
set_option maxRecDepth 100000 in
set_option maxHeartbeats 2000000 in
theorem ints_any (va vb : Value) (L : List Nat) (w : World) (ha : Rd w va (nus .i64 L)) (hb : Rd w vb (nus .i64 L)) (hz : L.length ≤ 1000000) :
    Calls Try.prog 10 #[va, vb] w fun e w' => e = .returned (.bool true) ∧ Below w.heap.size w w' := by
  obtain ⟨a1, c1, rfl, h1, h1m⟩ := rd_shape ha
  obtain ⟨a2, c2, rfl, h2, h2m⟩ := rd_shape hb
  obtain ⟨n, hn⟩ : ∃ n, n = L.length := ⟨_, rfl⟩
  rw [← hn] at ha hb h1 h2 hz ⊢
  have R1 := Lib.hid ha
  have R2 := Lib.hid hb
  clear ha hb hn
  go_enter Try.func10, Try.ntmps10
  go_wp2_with fail
  go_loopw [5] (fun i wr => ∃ k : Nat, k ≤ n ∧ i = .int .i64 (k : Int) ∧ Below w.heap.size w wr) (fun i _ => n - (intOf i).toNat)
  case atStart => exact ⟨0, Nat.zero_le _, rfl, Below.refl _ _⟩
  case round =>
    obtain ⟨k, hk, rfl, hy⟩ := hrel
    have K := Lib.hid hy
    clear hy
    by_cases hkn : k < n
    · have hki : (k : Int) < (n : Int) := by omega
      obtain ⟨b1, o1, rfl, q1⟩ := (R1.out.below K.out).cells (by omega)
      obtain ⟨b2, o2, rfl, q2⟩ := (R2.out.below K.out).cells (by omega)
      have C1 := Lib.hid (q1 k hkn)
      have C2 := Lib.hid (q2 k hkn)
      have B1 := Lib.hid (cell_lt C1.out)
      have B2 := Lib.hid (cell_lt C2.out)
      clear q1 q2
      generalize L.getD k 0 = x at *
      have e1 : ((x : Int) != (x : Int)) = false := by simp
      have e2 : ((x : Int) == (x : Int)) = true := by simp
      go_wp2_with fail
      refine wp_region_held (S := (fun w' : World => Below (wr.heap.size) wr w')) (by kernel_rfl) ?_
      change wpAnyH _ _ _ _ _ _ _ _ wr.drew
      have hy : Below wr.heap.size wr wr.drew := (Below.refl _ _).drew
      have hE0 : Below (wr.heap.size) wr wr.drew := (Below.refl _ _).drew
      clear hy
      generalize wr.drew = Y6x0 at hE0  ⊢
      have E0 := Lib.hid hE0
      clear hE0
      refine tkA 0 (?_) ?_ E0.out ?_
      rotate_left
      · (intro w1 hS; go_simp; try with_reducible rfl)
      simp only [Act.put, tS1, tS2, tS3]
      refine tkA 1 (?_) ?_ E0.out ?_
      rotate_left
      · (intro w1 hS; go_simp; try with_reducible rfl)
      simp only [Act.put, tS1, tS2, tS3]
      refine tkA 2 (?_) ?_ E0.out ?_
      rotate_left
      · (intro w1 hS; go_simp; try with_reducible rfl)
      simp only [Act.put, tS1, tS2, tS3]
      refine tkA 3 (?_) ?_ E0.out ?_
      rotate_left
      · (intro w1 hS; have hW := hS; have q := (hW.cell (p := ⟨b1, o1 + k, none⟩) B1.out).trans C1.out; clear hW hS; go_simp; try with_reducible rfl)
      simp only [Act.put, tS1, tS2, tS3]
      refine tkA 4 (?_) ?_ E0.out ?_
      rotate_left
      · (intro w1 hS; go_simp; try with_reducible rfl)
      simp only [Act.put, tS1, tS2, tS3]
      refine tkA 5 (?_) ?_ E0.out ?_
      rotate_left
      · (intro w1 hS; go_simp; try with_reducible rfl)
      simp only [Act.put, tS1, tS2, tS3]
      refine tkA 6 (?_) ?_ E0.out ?_
      rotate_left
      · (intro w1 hS; go_simp; try with_reducible rfl)
      simp only [Act.put, tS1, tS2, tS3]
      refine tkA 7 (?_) ?_ E0.out ?_
      rotate_left
      · (intro w1 hS; have hW := hS; have q := (hW.cell (p := ⟨b2, o2 + k, none⟩) B2.out).trans C2.out; clear hW hS; go_simp; try with_reducible rfl)
      simp only [Act.put, tS1, tS2, tS3]
      refine tkA 8 (?_) ?_ E0.out ?_
      rotate_left
      · (intro w1 hS; go_simp; try with_reducible rfl)
      simp only [Act.put, tS1, tS2, tS3]
      refine wpAnyH_done (by kernel_rfl) ?_ _
      have hy := E0.out
      replace K := Lib.hid (K.out.trans (hy.mono K.out.size))
      clear hy E0
      go_wp2
      go_roundw
      case rel => exact ⟨k + 1, by omega, by go_num, K.out⟩
      case measure => simp [intOf]; omega
    · obtain rfl : n = k := by omega
      go_wp2
      go_ret
      exact ⟨rfl, K.out⟩
end Go.Proofs.Ythionipmohbnhaa
namespace Go.Proofs.Ythionipmohbnhaa
open Go.RowKit
theorem own_keep {w w' : World} {base gs n cap B : Nat} {e : TypeId} {xs : List Value} (h : w.ownsRow base e 1 (.slice (some ⟨gs, 0, none⟩) n cap) n xs) (hb : Below B w w') (hg : gs < B) :
    w'.ownsRow base e 1 (.slice (some ⟨gs, 0, none⟩) n cap) n xs := by
  obtain ⟨h1, h2⟩ := h
  refine ⟨h1, ?_⟩
  rcases h2 with ⟨h2, -⟩ | ⟨k, cap', cur, hv, hh, h4, hn, hm, h5⟩
  · cases h2
  · cases hv
    exact .inr ⟨gs, cap, cur, rfl, hh, (hb.block gs hg).trans h4, hn, hm, h5⟩
theorem below_none {w w' : World} (h : w.grownBy w' none) : Below w.heap.size w w' := (Below.refl w.heap.size w).grown h (Nat.le_refl _) (fun k e => by cases e)
theorem kget (v : Bool) (sb db : List Nat) (hl1 : sb.length = 16) (hl2 : db.length = 16) (p sp dp : Nat) :
    (kcells p (cellsA v sb) (cellsA v db) sp dp)[0]? = some (.int .u8 (p : Int)) ∧ (kcells p (cellsA v sb) (cellsA v db) sp dp)[1]? = some (.bool v) ∧ (kcells p (cellsA v sb) (cellsA v db) sp dp)[18]? = some (.bool v) ∧
    (kcells p (cellsA v sb) (cellsA v db) sp dp)[35]? = some (.int .u16 (sp : Int)) ∧ (kcells p (cellsA v sb) (cellsA v db) sp dp)[36]? = some (.int .u16 (dp : Int)) := by
  obtain ⟨b0, b1, b2, b3, b4, b5, b6, b7, b8, b9, b10, b11, b12, b13, b14, b15, rfl⟩ := list16 sb hl1
  obtain ⟨d0, d1, d2, d3, d4, d5, d6, d7, d8, d9, d10, d11, d12, d13, d14, d15, rfl⟩ := list16 db hl2
  exact ⟨rfl, rfl, rfl, rfl, rfl⟩
theorem hdr_tcp (sp dp f m : Nat) (h1 : sp < 65536) (h2 : dp < 65536) :
    ((((((List.replicate 20 0).set 12 80).set 13 f).set 0 (sp / 256)).set (0 + 1) (sp % 256)).set 2 (dp / 256)).set (2 + 1) (dp % 256) = bg 2 sp ++ bg 2 dp ++ midB 6 f m := by
  have e1 : sp / 256 % 256 = sp / 256 := by omega
  have e2 : dp / 256 % 256 = dp / 256 := by omega
  simp [bg, midB, e1, e2, List.replicate]
theorem hdr_udp (sp dp f m : Nat) (h1 : sp < 65536) (h2 : dp < 65536) (h3 : 8 + m < 65536) :
    ((((((List.replicate 8 0).set 4 ((8 + m) / 256)).set (4 + 1) ((8 + m) % 256)).set 0 (sp / 256)).set (0 + 1) (sp % 256)).set 2 (dp / 256)).set (2 + 1) (dp % 256) = bg 2 sp ++ bg 2 dp ++ midB 17 f m := by
  have e1 : sp / 256 % 256 = sp / 256 := by omega
  have e2 : dp / 256 % 256 = dp / 256 := by omega
  have e3 : (8 + m) / 256 % 256 = (8 + m) / 256 := by omega
  simp [bg, midB, e1, e2, e3, List.replicate]
end Go.Proofs.Ythionipmohbnhaa
namespace Go.Proofs.Ythionipmohbnhaa
open Go.RowKit
theorem run_app_none (w : World) (ty g n cap : Nat) (hc : n ≤ cap) : (Builtin.append_ #[22, 3] ty #[.slice (some ⟨g, 0, none⟩) n cap, .int .i64 ((0 : Nat) : Int)]).run Try.prog w = .ok (.slice (some ⟨g, 0, none⟩) n cap) w := by
  obtain ⟨i, hi, hz, -, hby⟩ := info_parts Try.info5
  have ht : Try.prog.underlying 22 = some (.slice 5) := Try.underlying22
  have htn : Try.prog.underlying 3 = some (.int .i64) := Try.underlying3
  have hw : IntKind.i64.wrap (0 : Int) = 0 := by decide
  simp [Builtin.append_, run_underlying ht, run_underlying htn, sizeOf, typeInfo, zeroValue, hi, hz, hby, asInt, asIntOf, hw, hc, storeCells]
theorem wpList_zerosN {w : World} {ops : Array Oper} {rest : List Oper} {o : Oper} {a : Act} {Q : Exit → Act → World → Prop} (hgd : o.guard = none) (s x : Operand) (k : Nat)
    (ho : o.op = .call { callee := .builtin .append, args := #[s, x], argTypes := #[22, 3] }) (hx : a.eval x = .int .i64 (k : Int))
    (base g n cap : Nat) (zs : List Nat) (hs : a.eval s = .slice (some ⟨g, 0, none⟩) n cap) (hown : w.ownsRow base 5 1 (.slice (some ⟨g, 0, none⟩) n cap) n (nus .u8 zs)) (hn : n + k ≤ 1000000) (hbase : base ≤ w.heap.size)
    (h : ∀ v' w', w'.ownsRow base 5 1 v' (n + k) (nus .u8 (zs ++ List.replicate k 0)) → w.grownBy w' (some g) → wpList Try.prog ops Q rest (a.put o.dst v') w') :
    wpList Try.prog ops Q (o :: rest) a w := by
  by_cases h0 : k = 0
  · subst h0
    exact Lib.wpList_append_run w hgd s _ 22 3 ho _ _ hs hx _ _ (run_app_none w o.type g n cap (by obtain ⟨-, ⟨h1, -⟩ | ⟨g', c', cur, hv, -, -, h2, -⟩⟩ := hown; cases h1; cases hv; exact h2)) (h _ _ (by simpa using hown) (World.grownBy.refl _ _))
  · obtain ⟨v', w', hr, h1, h2⟩ := run_app_zeros w o.type base g n cap k _ hown (by omega) hn hbase
    exact Lib.wpList_append_run w hgd s _ 22 3 ho _ _ hs hx v' w' hr (h v' w' (by simpa [nus] using h1) h2)
end Go.Proofs.Ythionipmohbnhaa
