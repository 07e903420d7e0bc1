/- Texts that the walks of this seat lean on, put together. -/
import Derived.Test.YthionipmohbnhaaTk
import Derived.Test.YthionipmohbnhaaM06
import Derived.Test.YthionipmohbnhaaM08
import Derived.Test.YthionipmohbnhaaM10
namespace Go.Proofs.Ythionipmohbnhaa
open Go.RowKit
set_option maxRecDepth 100000 in
theorem built_key3 (p : Nat) (S D : Array Value) (hS : S.size = 17) (hD : D.size = 17) : Try.prog.built 37 [(0, .int .u8 (p : Int)), (1, .agg S), (2, .agg D)] = some (kcells p S D 0 0) := by
  obtain ⟨x0, x1, x2, x3, x4, x5, x6, x7, x8, x9, x10, x11, x12, x13, x14, x15, x16, rfl⟩ := arr17 S hS
  obtain ⟨y0, y1, y2, y3, y4, y5, y6, y7, y8, y9, y10, y11, y12, y13, y14, y15, y16, rfl⟩ := arr17 D hD
  kernel_rfl
set_option maxRecDepth 100000 in
theorem built_view4 (n s e p : Nat) (S D : Array Value) (hS : S.size = 17) (hD : D.size = 17) :
    Try.prog.built 42 [(1, .int .i64 (n : Int)), (2, .int .i64 (s : Int)), (3, .int .i64 (e : Int)), (4, .agg (kcells p S D 0 0))] = some (vcells false n s e (kcells p S D 0 0) 0) := by
  obtain ⟨x0, x1, x2, x3, x4, x5, x6, x7, x8, x9, x10, x11, x12, x13, x14, x15, x16, rfl⟩ := arr17 S hS
  obtain ⟨y0, y1, y2, y3, y4, y5, y6, y7, y8, y9, y10, y11, y12, y13, y14, y15, y16, rfl⟩ := arr17 D hD
  kernel_rfl
set_option maxRecDepth 100000 in
theorem built_view6 (n s e p : Nat) (S D : Array Value) (hS : S.size = 17) (hD : D.size = 17) :
    Try.prog.built 42 [(0, .bool true), (1, .int .i64 (n : Int)), (2, .int .i64 (s : Int)), (3, .int .i64 (e : Int)), (4, .agg (kcells p S D 0 0))] = some (vcells true n s e (kcells p S D 0 0) 0) := by
  obtain ⟨x0, x1, x2, x3, x4, x5, x6, x7, x8, x9, x10, x11, x12, x13, x14, x15, x16, rfl⟩ := arr17 S hS
  obtain ⟨y0, y1, y2, y3, y4, y5, y6, y7, y8, y9, y10, y11, y12, y13, y14, y15, y16, rfl⟩ := arr17 D hD
  kernel_rfl
set_option maxRecDepth 100000 in
set_option maxHeartbeats 4000000 in
theorem four_any (v : Value) (zs : List Nat) (at0 : Nat) (w : World) (hr : Rd w v (nus .u8 zs)) (hb : ∀ c ∈ zs, c < 256) (h1 : 0 < at0) (h2 : at0 ≤ zs.length) :
    Calls Try.prog 52 #[v, .int .i64 (at0 : Int)] w fun e w' => e = .returned (.tuple #[.agg (pv false at0 (zs.drop at0)), .int .i64 (ff (zs.drop at0) : Nat)]) ∧ Below w.heap.size w w' := by
  obtain ⟨T, hT⟩ : ∃ T, T = zs.drop at0 := ⟨_, rfl⟩
  rw [← hT]
  have hbT : ∀ c ∈ T, c < 256 := by rw [hT]; exact fun c hc => hb c (List.mem_of_mem_drop hc)
  have lT : T.length = zs.length - at0 := by rw [hT, List.length_drop]
  obtain ⟨a, cap, rfl, hlc, hlm⟩ := rd_shape hr
  obtain ⟨b, off, rfl, -⟩ := hr.cells (by omega)
  have CH := Lib.hid (show ∀ W z, Rd W z (nus .u8 T) → Calls Try.prog 69 #[z] W fun e w' => e = .returned (.tuple #[.agg (hd T), .int .i64 (ff T : Nat)]) ∧ Below W.heap.size W w' from fun W z h => read4_any z T W h hbT)
  have hRT := subP hr at0 (zs.length - at0) (by omega)
  rw [List.take_of_length_le (by rw [List.length_drop]; omega), ← hT] at hRT
  obtain ⟨P, hP⟩ : ∃ P, P = (if cap = at0 then some (⟨b, off, none⟩ : Addr) else some ⟨b, off + at0, none⟩) := ⟨_, rfl⟩
  rw [← hP] at hRT
  have RT := Lib.hid hRT
  have K := Lib.hid (Below.refl w.heap.size w)
  have hsz : (hd T).size = 37 := (fhd_size false) T
  have hall : (hd T).all (·.oneCell') = true := (fhd_all false) T
  have YH : Hid ((hd T).size = Array.size (Zc37 : Array Value)) := hsz
  have ZH := Lib.hid (i29.trans (congrArg some hsz.symm))
  have AH := Lib.hid hall
  clear hsz hall
  have Y0 : Hid (v0.size = Array.size (ZcV : Array Value)) := v0_size
  have Z0 := Lib.hid (i72.trans (congrArg some v0_size.symm))
  have A0 := Lib.hid v0_all
  have HPV := Lib.hid (show pv false at0 T = if ff T = 0 then vcells false at0 (at0 + fS false T) (at0 + fL false T) (kcells (fP false T) (fA false T) (fB false T) 0 0) 0 else v0 from rfl)
  have HHD := Lib.hid (fhd_yes false T)
  have YVW : Hid ((pv false at0 T).size = Array.size (ZcV : Array Value)) := pv_size _ _ _
  have QVW := Lib.hid (i72.trans (congrArg some (pv_size false at0 T).symm))
  have AVW := Lib.hid (pv_all false at0 T)
  have HL := Lib.hid lT
  have HHH := Lib.hid (show hd T = hd T from rfl)
  have hfl := fhr_lt false T
  rw [show fhr false T = ff T from rfl] at hfl
  clear hr hRT hT hb hbT lT
  have hP2 := hP.symm
  clear hP
  generalize hHE : hd T = H at *
  have HHE := Lib.hid hHE
  clear hHE HHH
  generalize hFR : ff T = fr at *
  have HFR := Lib.hid hFR
  clear hFR
  generalize pv false at0 T = VW at *
  generalize zs.length = n at *
  unfold maxLen at hlm
  go_enter Try.func52, Try.ntmps52
  have hal := (Below.refl w.heap.size w).alloc (Nat.le_refl _) (.cells ZcV 42)
  replace K := Lib.hid (K.out.trans (hal.mono K.out.size))
  have HV := Lib.hid (Blk.new w 42 ZcV)
  clear hal
  go_wp2_with fail
  have hzV1 : Hid ((w.alloc (.cells ZcV 42)).heap.size = w.heap.size + 1) := by show _ = _; simp only [World.size_alloc]
  generalize (w.alloc (.cells ZcV 42)) = V1 at *
  refine (CH.out _ _ (RT.out.below K.out)).mono ?_
  rintro e V2 ⟨rfl, hy⟩
  replace K := Lib.hid (K.out.trans (hy.mono K.out.size))
  replace HV := Lib.hid (HV.out.below hy HV.out.lt)
  clear hy
  go_wp2_with (((with_reducible refine wpList_blk_store (op := ⟨none, .store 110 (.tmp 6) (.tmp 13), _, _, _, _⟩) ?sg1 110 (.tmp 6) (.tmp 13) ?so1 (V2.heap.size) H ?sx1 ?sy1 (Blk.new V2 110 Zc37) YH.out ZH.out AH.out ?_); (case sg1 => rfl); (case so1 => rfl); (case sx1 => rfl); (case sy1 => rfl)))
  have qHVHB : w.heap.size < V2.heap.size := HV.out.lt
  intro V3 hA hF hB
  have hy := ((Below.refl V2.heap.size V2).alloc (Nat.le_refl _) (.cells Zc37 110)).trans (hB _ (Nat.le_refl _))
  replace K := Lib.hid (K.out.trans (hy.mono K.out.size))
  replace HV := Lib.hid (HV.out.below hy HV.out.lt)
  have HB := Lib.hid hA
  clear hA hF hB hy
  by_cases hfr : fr = 0
  case neg =>
    have hV : v0 = VW := by rw [HPV.out, if_neg hfr]
    subst hV
    have g0 : ((fr : Int) != 0) = true := by simp; omega
    clear hfr
    go_wp2_with (((with_reducible refine wpList_blk_store (op := ⟨none, .store 42 (.tmp 4) (.tmp 17), _, _, _, _⟩) ?sg2 42 (.tmp 4) (.tmp 17) ?so2 (w.heap.size) v0 ?sx2 ?sy2 HV.out Y0.out Z0.out A0.out ?_); (case sg2 => rfl); (case so2 => rfl); (case sx2 => rfl); (case sy2 => rfl)))
    intro V4 hA hF hB
    replace K := Lib.hid (K.out.trans (hB _ (by omega)))
    replace HB := Lib.hid (show Blk _ _ _ _ from (hF _ (by omega)).trans HB.out)
    replace HV := Lib.hid hA
    clear hA hF hB
    go_wp2
    have hrun := run_blk_load (P := Try.prog) 42 w.heap.size _ HV.out Try.underlying42 rfl Z0.out
    exact bodyPost_ret (results_cell_tmp 4 42 5 w.heap.size _ Try.results52 rfl hrun) rfl ⟨rfl, K.out⟩
  have HDD := HHD.out (HFR.out.trans hfr)
  have hX : H = hcells (fS false T) (fL false T) (fP false T) (fA false T) (fB false T) := HHE.out.symm.trans HDD.hd
  have hsS := HDD.sA
  have hsD := HDD.sB
  have hhigh := HDD.high
  have haA := fA_all false T
  have haB := fB_all false T
  have hsl := HDD.mid
  rw [HL.out] at hhigh
  have hpv := HPV.out
  rw [if_pos hfr] at hpv
  clear HHD HHE HFR HL HPV HDD CH
  subst hfr
  generalize fS false T = s at *
  generalize fL false T = l at *
  generalize fP false T = p at *
  generalize fA false T = S at *
  generalize fB false T = D at *
  have H0 := Lib.hid (show H[0]? = some (.int .i64 (s : Int)) by rw [hX]; exact (hcells_get s l p S D).1)
  have H1 := Lib.hid (show H[1]? = some (.int .i64 (l : Int)) by rw [hX]; exact (hcells_get s l p S D).2.1)
  have H2 := Lib.hid (show H[2]? = some (.int .u8 (p : Int)) by rw [hX]; exact (hcells_get s l p S D).2.2)
  have PS := Lib.hid (show (H.toList.drop 3).take S.toList.length = S.toList by rw [hX]; exact rcells_src s l p S D)
  have PD := Lib.hid (show (H.toList.drop 20).take D.toList.length = D.toList by rw [hX]; exact rcells_dst s l p S D hsS)
  have wa1 := Lib.hid (show IntKind.i64.wrap ((at0 : Int) + (s : Int)) = ((at0 + s : Nat) : Int) by rw [IntKind.wrap_i64]; omega)
  have wa2 := Lib.hid (show IntKind.i64.wrap ((at0 : Int) + (l : Int)) = ((at0 + l : Nat) : Int) by rw [IntKind.wrap_i64]; omega)
  have BV := Lib.hid (built_view4 at0 (at0 + s) (at0 + l) p S D hsS hsD)
  generalize at0 + s = sg at *
  generalize at0 + l = en at *
  have BK := Lib.hid (built_key3 p S D hsS hsD)
  have IS := Lib.hid (i24.trans (congrArg some (show (17 : Nat) = S.toList.length by simp [hsS])))
  have ID := Lib.hid (i24.trans (congrArg some (show (17 : Nat) = D.toList.length by simp [hsD])))
  have yk := kcells_size p S D 0 0 hsS hsD
  have ak := kcells_all p S D 0 0 haA haB
  generalize kcells p S D 0 0 = kc at *
  rw [← hpv] at BV
  have YKC : Hid (kc.size = Array.size (ZcK : Array Value)) := yk
  have ZKC := Lib.hid (i43.trans (congrArg some yk.symm))
  have AKC := Lib.hid ak
  have wb1 := wa1.out
  have wb2 := wa2.out
  clear yk ak hpv hX hsS hsD haA haB wa1 wa2 hP2 RT
  have L3 := (HB.out.cell 2).trans H2.out
  have L4 : (loadVar 25 ⟨V2.heap.size, 3, none⟩).run Try.prog V3 = .ok (.agg S) V3 := by have h := run_part_load (P := Try.prog) 25 3 S.toList _ HB.out PS.out Try.underlying25 rfl IS.out; rwa [Array.toArray_toList] at h
  replace L4 := Lib.hid L4
  have L5 : (loadVar 25 ⟨V2.heap.size, 20, none⟩).run Try.prog V3 = .ok (.agg D) V3 := by have h := run_part_load (P := Try.prog) 25 20 D.toList _ HB.out PD.out Try.underlying25 rfl ID.out; rwa [Array.toArray_toList] at h
  replace L5 := Lib.hid L5
  go_wp2_with (first | ((with_reducible refine wpList_load_want (op := ⟨some 22, .load 25 (.tmp 21), _, _, _, _⟩) ?wg4 25 (.tmp 21) ?wo4 ⟨V2.heap.size, 3, none⟩ ?wx4 (.agg S) L4.out ?_); (case wg4 => rfl); (case wo4 => rfl); (case wx4 => rfl)) | ((with_reducible refine wpList_load_want (op := ⟨some 24, .load 25 (.tmp 23), _, _, _, _⟩) ?wg5 25 (.tmp 23) ?wo5 ⟨V2.heap.size, 20, none⟩ ?wx5 (.agg D) L5.out ?_); (case wg5 => rfl); (case wo5 => rfl); (case wx5 => rfl)) | ((with_reducible refine wpList_built2 (op := ⟨some 25, .build 37 #[(0, Operand.tmp 20), (1, Operand.tmp 22), (2, Operand.tmp 24)], _, _, _, _⟩) ?wg25 37 #[(0, Operand.tmp 20), (1, Operand.tmp 22), (2, Operand.tmp 24)] ?wo25 #[(0, .int .u8 (p : Int)), (1, .agg S), (2, .agg D)] ?wv25 kc ?wf25 ?_); (case wg25 => rfl); (case wo25 => rfl); (case wv25 => kernel_rfl); (case wf25 => exact BK.out)) | ((with_reducible refine wpList_blk_store (op := ⟨none, .store 37 (.tmp 7) (.tmp 25), _, _, _, _⟩) ?sg6 37 (.tmp 7) (.tmp 25) ?so6 (V3.heap.size) kc ?sx6 ?sy6 (Blk.new V3 37 ZcK) YKC.out ZKC.out AKC.out ?_); (case sg6 => rfl); (case so6 => rfl); (case sx6 => rfl); (case sy6 => rfl)))
  clear L3 L4 L5
  have qHVNK : w.heap.size < V3.heap.size := HV.out.lt
  have qHBNK : V2.heap.size < V3.heap.size := HB.out.lt
  intro V4 hA hF hB
  have hy := ((Below.refl V3.heap.size V3).alloc (Nat.le_refl _) (.cells ZcK 37)).trans (hB _ (Nat.le_refl _))
  replace K := Lib.hid (K.out.trans (hy.mono K.out.size))
  replace HV := Lib.hid (HV.out.below hy HV.out.lt)
  replace HB := Lib.hid (HB.out.below hy HB.out.lt)
  have NK := Lib.hid hA
  clear hA hF hB hy
  have L7 := (HB.out.cell 0).trans H0.out
  have L8 := (HB.out.cell 1).trans H1.out
  have L9 : (loadVar 37 ⟨V3.heap.size, 0, none⟩).run Try.prog V4 = .ok (.agg kc) V4 := run_blk_load (P := Try.prog) 37 (V3.heap.size) _ NK.out Try.underlying37 rfl ZKC.out
  replace L9 := Lib.hid L9
  go_wp2_with (first | ((with_reducible refine wpList_load_want (op := ⟨some 35, .load 37 (.tmp 7), _, _, _, _⟩) ?wg9 37 (.tmp 7) ?wo9 ⟨V3.heap.size, 0, none⟩ ?wx9 (.agg kc) L9.out ?_); (case wg9 => rfl); (case wo9 => rfl); (case wx9 => rfl)) | ((with_reducible refine wpList_built2 (op := ⟨some 36, .build 42 #[(1, Operand.tmp 26), (2, Operand.tmp 30), (3, Operand.tmp 34), (4, Operand.tmp 35)], _, _, _, _⟩) ?wg36 42 #[(1, Operand.tmp 26), (2, Operand.tmp 30), (3, Operand.tmp 34), (4, Operand.tmp 35)] ?wo36 #[(1, .int .i64 (at0 : Int)), (2, .int .i64 (sg : Int)), (3, .int .i64 (en : Int)), (4, .agg kc)] ?wv36 VW ?wf36 ?_); (case wg36 => rfl); (case wo36 => rfl); (case wv36 => kernel_rfl); (case wf36 => exact BV.out)) | ((with_reducible refine wpList_blk_store (op := ⟨none, .store 42 (.tmp 4) (.tmp 36), _, _, _, _⟩) ?sg10 42 (.tmp 4) (.tmp 36) ?so10 (w.heap.size) VW ?sx10 ?sy10 HV.out YVW.out QVW.out AVW.out ?_); (case sg10 => rfl); (case so10 => rfl); (case sx10 => rfl); (case sy10 => rfl)))
  clear L7 L8 L9
  intro V5 hA hF hB
  replace K := Lib.hid (K.out.trans (hB _ (by omega)))
  replace HB := Lib.hid (show Blk _ _ _ _ from (hF _ (by omega)).trans HB.out)
  replace NK := Lib.hid (show Blk _ _ _ _ from (hF _ (by omega)).trans NK.out)
  replace HV := Lib.hid hA
  clear hA hF hB
  go_wp2
  have hrun := run_blk_load (P := Try.prog) 42 w.heap.size _ HV.out Try.underlying42 rfl QVW.out
  exact bodyPost_ret (results_cell_tmp 4 42 5 w.heap.size _ Try.results52 rfl hrun) rfl ⟨rfl, K.out⟩
set_option maxRecDepth 100000 in
set_option maxHeartbeats 4000000 in
theorem six_any (v : Value) (zs : List Nat) (at0 : Nat) (w : World) (hr : Rd w v (nus .u8 zs)) (hb : ∀ c ∈ zs, c < 256) (h1 : 0 < at0) (h2 : at0 ≤ zs.length) :
    Calls Try.prog 51 #[v, .int .i64 (at0 : Int)] w fun e w' => e = .returned (.tuple #[.agg (pv true at0 (zs.drop at0)), .int .i64 (f6 (zs.drop at0) : Nat)]) ∧ Below w.heap.size w w' := by
  obtain ⟨T, hT⟩ : ∃ T, T = zs.drop at0 := ⟨_, rfl⟩
  rw [← hT]
  have hbT : ∀ c ∈ T, c < 256 := by rw [hT]; exact fun c hc => hb c (List.mem_of_mem_drop hc)
  have lT : T.length = zs.length - at0 := by rw [hT, List.length_drop]
  obtain ⟨a, cap, rfl, hlc, hlm⟩ := rd_shape hr
  obtain ⟨b, off, rfl, -⟩ := hr.cells (by omega)
  have CH := Lib.hid (show ∀ W z, Rd W z (nus .u8 T) → Calls Try.prog 68 #[z] W fun e w' => e = .returned (.tuple #[.agg (hd6 T), .int .i64 (f6 T : Nat)]) ∧ Below W.heap.size W w' from fun W z h => read6_any z T W h hbT)
  have hRT := subP hr at0 (zs.length - at0) (by omega)
  rw [List.take_of_length_le (by rw [List.length_drop]; omega), ← hT] at hRT
  obtain ⟨P, hP⟩ : ∃ P, P = (if cap = at0 then some (⟨b, off, none⟩ : Addr) else some ⟨b, off + at0, none⟩) := ⟨_, rfl⟩
  rw [← hP] at hRT
  have RT := Lib.hid hRT
  have K := Lib.hid (Below.refl w.heap.size w)
  have hsz : (hd6 T).size = 36 := hd6_size T
  have hall : (hd6 T).all (·.oneCell') = true := hd6_all T
  have YH : Hid ((hd6 T).size = Array.size (Zc36 : Array Value)) := hsz
  have ZH := Lib.hid (i100.trans (congrArg some hsz.symm))
  have AH := Lib.hid hall
  clear hsz hall
  have Y0 : Hid (v0.size = Array.size (ZcV : Array Value)) := v0_size
  have Z0 := Lib.hid (i72.trans (congrArg some v0_size.symm))
  have A0 := Lib.hid v0_all
  have HPV := Lib.hid (show pv true at0 T = if f6 T = 0 then vcells true at0 (at0 + fS true T) (at0 + fL true T) (kcells (fP true T) (fA true T) (fB true T) 0 0) 0 else v0 from rfl)
  have HHD := Lib.hid (fhd_yes true T)
  have YVW : Hid ((pv true at0 T).size = Array.size (ZcV : Array Value)) := pv_size _ _ _
  have QVW := Lib.hid (i72.trans (congrArg some (pv_size true at0 T).symm))
  have AVW := Lib.hid (pv_all true at0 T)
  have HL := Lib.hid lT
  have HHH := Lib.hid (show hd6 T = hd6 T from rfl)
  have hfl := fhr_lt true T
  rw [show fhr true T = f6 T from rfl] at hfl
  clear hr hRT hT hb hbT lT
  have hP2 := hP.symm
  clear hP
  generalize hHE : hd6 T = H at *
  have HHE := Lib.hid hHE
  clear hHE HHH
  generalize hFR : f6 T = fr at *
  have HFR := Lib.hid hFR
  clear hFR
  generalize pv true at0 T = VW at *
  generalize zs.length = n at *
  unfold maxLen at hlm
  go_enter Try.func51, Try.ntmps51
  have hal := (Below.refl w.heap.size w).alloc (Nat.le_refl _) (.cells ZcV 42)
  replace K := Lib.hid (K.out.trans (hal.mono K.out.size))
  have HV := Lib.hid (Blk.new w 42 ZcV)
  clear hal
  go_wp2_with fail
  have hzV1 : Hid ((w.alloc (.cells ZcV 42)).heap.size = w.heap.size + 1) := by show _ = _; simp only [World.size_alloc]
  generalize (w.alloc (.cells ZcV 42)) = V1 at *
  refine (CH.out _ _ (RT.out.below K.out)).mono ?_
  rintro e V2 ⟨rfl, hy⟩
  replace K := Lib.hid (K.out.trans (hy.mono K.out.size))
  replace HV := Lib.hid (HV.out.below hy HV.out.lt)
  clear hy
  go_wp2_with (((with_reducible refine wpList_blk_store (op := ⟨none, .store 107 (.tmp 6) (.tmp 13), _, _, _, _⟩) ?sg11 107 (.tmp 6) (.tmp 13) ?so11 (V2.heap.size) H ?sx11 ?sy11 (Blk.new V2 107 Zc36) YH.out ZH.out AH.out ?_); (case sg11 => rfl); (case so11 => rfl); (case sx11 => rfl); (case sy11 => rfl)))
  have qHVHB : w.heap.size < V2.heap.size := HV.out.lt
  intro V3 hA hF hB
  have hy := ((Below.refl V2.heap.size V2).alloc (Nat.le_refl _) (.cells Zc36 107)).trans (hB _ (Nat.le_refl _))
  replace K := Lib.hid (K.out.trans (hy.mono K.out.size))
  replace HV := Lib.hid (HV.out.below hy HV.out.lt)
  have HB := Lib.hid hA
  clear hA hF hB hy
  by_cases hfr : fr = 0
  case neg =>
    have hV : v0 = VW := by rw [HPV.out, if_neg hfr]
    subst hV
    have g0 : ((fr : Int) != 0) = true := by simp; omega
    clear hfr
    go_wp2_with (((with_reducible refine wpList_blk_store (op := ⟨none, .store 42 (.tmp 4) (.tmp 17), _, _, _, _⟩) ?sg12 42 (.tmp 4) (.tmp 17) ?so12 (w.heap.size) v0 ?sx12 ?sy12 HV.out Y0.out Z0.out A0.out ?_); (case sg12 => rfl); (case so12 => rfl); (case sx12 => rfl); (case sy12 => rfl)))
    intro V4 hA hF hB
    replace K := Lib.hid (K.out.trans (hB _ (by omega)))
    replace HB := Lib.hid (show Blk _ _ _ _ from (hF _ (by omega)).trans HB.out)
    replace HV := Lib.hid hA
    clear hA hF hB
    go_wp2
    have hrun := run_blk_load (P := Try.prog) 42 w.heap.size _ HV.out Try.underlying42 rfl Z0.out
    exact bodyPost_ret (results_cell_tmp 4 42 5 w.heap.size _ Try.results51 rfl hrun) rfl ⟨rfl, K.out⟩
  have hX : H = scells (40 + u2 T 4) (T.getD 6 0) (srcA T) (dstA T) := by rw [← HHE.out]; unfold hd6; rw [if_pos (HFR.out.trans hfr)]
  have HDD := HHD.out (HFR.out.trans hfr)
  have hsS : (srcA T).size = 17 := HDD.sA
  have hsD : (dstA T).size = 17 := HDD.sB
  have hhigh : 40 + u2 T 4 ≤ T.length := HDD.high
  have haA := fA_all true T
  have haB := fB_all true T
  rw [HL.out] at hhigh
  have hpv := HPV.out
  rw [if_pos hfr] at hpv
  replace hpv : VW = vcells true at0 (at0 + 40) (at0 + (40 + u2 T 4)) (kcells (T.getD 6 0) (srcA T) (dstA T) 0 0) 0 := hpv
  replace haA : (srcA T).all (·.oneCell') = true := haA
  replace haB : (dstA T).all (·.oneCell') = true := haB
  have hl40 : 40 ≤ 40 + u2 T 4 := Nat.le_add_right _ _
  clear HHD HHE HFR HL HPV HDD CH
  subst hfr
  generalize T.getD 6 0 = p at *
  generalize 40 + u2 T 4 = l at *
  generalize srcA T = S at *
  generalize dstA T = D at *
  obtain ⟨s, hs⟩ : ∃ s, s = 40 := ⟨_, rfl⟩
  have H0 := Lib.hid (show H[0]? = some (.int .i64 (l : Int)) by rw [hX]; exact (scells_get l p S D).1)
  have H1 := Lib.hid (show H[1]? = some (.int .u8 (p : Int)) by rw [hX]; exact (scells_get l p S D).2)
  have PS := Lib.hid (show (H.toList.drop 2).take S.toList.length = S.toList by rw [hX]; exact scells_src l p S D)
  have PD := Lib.hid (show (H.toList.drop 19).take D.toList.length = D.toList by rw [hX]; exact scells_dst l p S D hsS)
  have wa1 := Lib.hid (show IntKind.i64.wrap ((at0 : Int) + 40) = ((at0 + 40 : Nat) : Int) by rw [IntKind.wrap_i64]; omega)
  have wa2 := Lib.hid (show IntKind.i64.wrap ((at0 : Int) + (l : Int)) = ((at0 + l : Nat) : Int) by rw [IntKind.wrap_i64]; omega)
  have BV := Lib.hid (built_view6 at0 (at0 + 40) (at0 + l) p S D hsS hsD)
  generalize at0 + 40 = sg at *
  generalize at0 + l = en at *
  have BK := Lib.hid (built_key3 p S D hsS hsD)
  have IS := Lib.hid (i24.trans (congrArg some (show (17 : Nat) = S.toList.length by simp [hsS])))
  have ID := Lib.hid (i24.trans (congrArg some (show (17 : Nat) = D.toList.length by simp [hsD])))
  have yk := kcells_size p S D 0 0 hsS hsD
  have ak := kcells_all p S D 0 0 haA haB
  generalize kcells p S D 0 0 = kc at *
  rw [← hpv] at BV
  have YKC : Hid (kc.size = Array.size (ZcK : Array Value)) := yk
  have ZKC := Lib.hid (i43.trans (congrArg some yk.symm))
  have AKC := Lib.hid ak
  have wb1 := wa1.out
  have wb2 := wa2.out
  clear yk ak hpv hX hsS hsD haA haB wa1 wa2 hP2 RT
  have L13 := (HB.out.cell 1).trans H1.out
  have L14 : (loadVar 25 ⟨V2.heap.size, 2, none⟩).run Try.prog V3 = .ok (.agg S) V3 := by have h := run_part_load (P := Try.prog) 25 2 S.toList _ HB.out PS.out Try.underlying25 rfl IS.out; rwa [Array.toArray_toList] at h
  replace L14 := Lib.hid L14
  have L15 : (loadVar 25 ⟨V2.heap.size, 19, none⟩).run Try.prog V3 = .ok (.agg D) V3 := by have h := run_part_load (P := Try.prog) 25 19 D.toList _ HB.out PD.out Try.underlying25 rfl ID.out; rwa [Array.toArray_toList] at h
  replace L15 := Lib.hid L15
  go_wp2_with (first | ((with_reducible refine wpList_load_want (op := ⟨some 22, .load 25 (.tmp 21), _, _, _, _⟩) ?wg14 25 (.tmp 21) ?wo14 ⟨V2.heap.size, 2, none⟩ ?wx14 (.agg S) L14.out ?_); (case wg14 => rfl); (case wo14 => rfl); (case wx14 => rfl)) | ((with_reducible refine wpList_load_want (op := ⟨some 24, .load 25 (.tmp 23), _, _, _, _⟩) ?wg15 25 (.tmp 23) ?wo15 ⟨V2.heap.size, 19, none⟩ ?wx15 (.agg D) L15.out ?_); (case wg15 => rfl); (case wo15 => rfl); (case wx15 => rfl)) | ((with_reducible refine wpList_built2 (op := ⟨some 25, .build 37 #[(0, Operand.tmp 20), (1, Operand.tmp 22), (2, Operand.tmp 24)], _, _, _, _⟩) ?wg25 37 #[(0, Operand.tmp 20), (1, Operand.tmp 22), (2, Operand.tmp 24)] ?wo25 #[(0, .int .u8 (p : Int)), (1, .agg S), (2, .agg D)] ?wv25 kc ?wf25 ?_); (case wg25 => rfl); (case wo25 => rfl); (case wv25 => kernel_rfl); (case wf25 => exact BK.out)) | ((with_reducible refine wpList_blk_store (op := ⟨none, .store 37 (.tmp 7) (.tmp 25), _, _, _, _⟩) ?sg16 37 (.tmp 7) (.tmp 25) ?so16 (V3.heap.size) kc ?sx16 ?sy16 (Blk.new V3 37 ZcK) YKC.out ZKC.out AKC.out ?_); (case sg16 => rfl); (case so16 => rfl); (case sx16 => rfl); (case sy16 => rfl)))
  clear L13 L14 L15
  have qHVNK : w.heap.size < V3.heap.size := HV.out.lt
  have qHBNK : V2.heap.size < V3.heap.size := HB.out.lt
  intro V4 hA hF hB
  have hy := ((Below.refl V3.heap.size V3).alloc (Nat.le_refl _) (.cells ZcK 37)).trans (hB _ (Nat.le_refl _))
  replace K := Lib.hid (K.out.trans (hy.mono K.out.size))
  replace HV := Lib.hid (HV.out.below hy HV.out.lt)
  replace HB := Lib.hid (HB.out.below hy HB.out.lt)
  have NK := Lib.hid hA
  clear hA hF hB hy
  have L17 := (HB.out.cell 0).trans H0.out
  have L18 : (loadVar 37 ⟨V3.heap.size, 0, none⟩).run Try.prog V4 = .ok (.agg kc) V4 := run_blk_load (P := Try.prog) 37 (V3.heap.size) _ NK.out Try.underlying37 rfl ZKC.out
  replace L18 := Lib.hid L18
  go_wp2_with (first | ((with_reducible refine wpList_load_want (op := ⟨some 33, .load 37 (.tmp 7), _, _, _, _⟩) ?wg18 37 (.tmp 7) ?wo18 ⟨V3.heap.size, 0, none⟩ ?wx18 (.agg kc) L18.out ?_); (case wg18 => rfl); (case wo18 => rfl); (case wx18 => rfl)) | ((with_reducible refine wpList_built2 (op := ⟨some 34, .build 42 #[(0, Operand.const (Value.bool true)), (1, Operand.tmp 26), (2, Operand.tmp 28), (3, Operand.tmp 32), (4, Operand.tmp 33)], _, _, _, _⟩) ?wg34 42 #[(0, Operand.const (Value.bool true)), (1, Operand.tmp 26), (2, Operand.tmp 28), (3, Operand.tmp 32), (4, Operand.tmp 33)] ?wo34 #[(0, .bool true), (1, .int .i64 (at0 : Int)), (2, .int .i64 (sg : Int)), (3, .int .i64 (en : Int)), (4, .agg kc)] ?wv34 VW ?wf34 ?_); (case wg34 => rfl); (case wo34 => rfl); (case wv34 => kernel_rfl); (case wf34 => exact BV.out)) | ((with_reducible refine wpList_blk_store (op := ⟨none, .store 42 (.tmp 4) (.tmp 34), _, _, _, _⟩) ?sg19 42 (.tmp 4) (.tmp 34) ?so19 (w.heap.size) VW ?sx19 ?sy19 HV.out YVW.out QVW.out AVW.out ?_); (case sg19 => rfl); (case so19 => rfl); (case sx19 => rfl); (case sy19 => rfl)))
  clear L17 L18
  intro V5 hA hF hB
  replace K := Lib.hid (K.out.trans (hB _ (by omega)))
  replace HB := Lib.hid (show Blk _ _ _ _ from (hF _ (by omega)).trans HB.out)
  replace NK := Lib.hid (show Blk _ _ _ _ from (hF _ (by omega)).trans NK.out)
  replace HV := Lib.hid hA
  clear hA hF hB
  go_wp2
  have hrun := run_blk_load (P := Try.prog) 42 w.heap.size _ HV.out Try.underlying42 rfl QVW.out
  exact bodyPost_ret (results_cell_tmp 4 42 5 w.heap.size _ Try.results51 rfl hrun) rfl ⟨rfl, K.out⟩
set_option maxRecDepth 100000 in
set_option maxHeartbeats 1000000 in
theorem packet_any (v : Value) (zs : List Nat) (at0 : Nat) (six : Bool) (w : World) (hr : Rd w v (nus .u8 zs)) (hb : ∀ c ∈ zs, c < 256) (h1 : 0 < at0) (h2 : at0 ≤ zs.length) :
    Calls Try.prog 39 #[v, .int .i64 (at0 : Int), .int .u16 ((if six then 34525 else 2048 : Nat) : Int)] w fun e w' => e = .returned (.tuple #[.agg (pv six at0 (zs.drop at0)), .int .i64 (fhr six (zs.drop at0) : Nat)]) ∧ Below w.heap.size w w' := by
  have C4 := Lib.hid (fun W (h : Rd W v (nus .u8 zs)) => four_any v zs at0 W h hb h1 h2)
  have C6 := Lib.hid (fun W (h : Rd W v (nus .u8 zs)) => six_any v zs at0 W h hb h1 h2)
  have YVW : Hid ((pv six at0 (zs.drop at0)).size = Array.size (ZcV : Array Value)) := pv_size _ _ _
  have QVW := Lib.hid (i72.trans (congrArg some (pv_size six at0 (zs.drop at0)).symm))
  have AVW := Lib.hid (pv_all six at0 (zs.drop at0))
  have K := Lib.hid (Below.refl w.heap.size w)
  have HR := Lib.hid hr
  obtain ⟨a, cap, rfl, -, -⟩ := rd_shape hr
  clear hr hb
  have EF : Hid (fhr six (zs.drop at0) = if six then f6 (zs.drop at0) else ff (zs.drop at0)) := rfl
  cases six with
  | true =>
    rw [show fhr true (zs.drop at0) = f6 (zs.drop at0) from rfl]
    generalize pv true at0 (zs.drop at0) = VW at *
    generalize f6 (zs.drop at0) = r at *
    clear EF
    generalize zs.length = n at *
    go_enter Try.func39, Try.ntmps39
    have hal := (Below.refl w.heap.size w).alloc (Nat.le_refl _) (.cells ZcV 42)
    replace K := Lib.hid (K.out.trans (hal.mono K.out.size))
    have HV := Lib.hid (Blk.new w 42 ZcV)
    clear hal
    go_wp2_with fail
    have hzV1 : Hid ((w.alloc (.cells ZcV 42)).heap.size = w.heap.size + 1) := by show _ = _; simp only [World.size_alloc]
    generalize (w.alloc (.cells ZcV 42)) = V1 at *
    refine (C6.out _ (HR.out.below K.out)).mono ?_
    rintro e V2 ⟨rfl, hy⟩
    replace K := Lib.hid (K.out.trans (hy.mono K.out.size))
    replace HV := Lib.hid (HV.out.below hy HV.out.lt)
    clear hy
    go_wp2_with (((with_reducible refine wpList_blk_store (op := ⟨none, .store 42 (.tmp 6) (.tmp 13), _, _, _, _⟩) ?sg20 42 (.tmp 6) (.tmp 13) ?so20 (w.heap.size) VW ?sx20 ?sy20 HV.out YVW.out QVW.out AVW.out ?_); (case sg20 => rfl); (case so20 => rfl); (case sx20 => rfl); (case sy20 => rfl)))
    intro V3 hA hF hB
    replace K := Lib.hid (K.out.trans (hB _ (by omega)))
    replace HV := Lib.hid hA
    clear hA hF hB
    go_wp2
    have hrun := run_blk_load (P := Try.prog) 42 w.heap.size _ HV.out Try.underlying42 rfl QVW.out
    exact bodyPost_ret (results_cell_tmp 6 42 7 w.heap.size _ Try.results39 rfl hrun) rfl ⟨rfl, K.out⟩
  | false =>
    rw [show fhr false (zs.drop at0) = ff (zs.drop at0) from rfl]
    generalize pv false at0 (zs.drop at0) = VW at *
    generalize ff (zs.drop at0) = r at *
    clear EF
    generalize zs.length = n at *
    go_enter Try.func39, Try.ntmps39
    have hal := (Below.refl w.heap.size w).alloc (Nat.le_refl _) (.cells ZcV 42)
    replace K := Lib.hid (K.out.trans (hal.mono K.out.size))
    have HV := Lib.hid (Blk.new w 42 ZcV)
    clear hal
    go_wp2_with fail
    have hzV1 : Hid ((w.alloc (.cells ZcV 42)).heap.size = w.heap.size + 1) := by show _ = _; simp only [World.size_alloc]
    generalize (w.alloc (.cells ZcV 42)) = V1 at *
    refine (C4.out _ (HR.out.below K.out)).mono ?_
    rintro e V2 ⟨rfl, hy⟩
    replace K := Lib.hid (K.out.trans (hy.mono K.out.size))
    replace HV := Lib.hid (HV.out.below hy HV.out.lt)
    clear hy
    go_wp2_with (((with_reducible refine wpList_blk_store (op := ⟨none, .store 42 (.tmp 6) (.tmp 18), _, _, _, _⟩) ?sg21 42 (.tmp 6) (.tmp 18) ?so21 (w.heap.size) VW ?sx21 ?sy21 HV.out YVW.out QVW.out AVW.out ?_); (case sg21 => rfl); (case so21 => rfl); (case sx21 => rfl); (case sy21 => rfl)))
    intro V3 hA hF hB
    replace K := Lib.hid (K.out.trans (hB _ (by omega)))
    replace HV := Lib.hid hA
    clear hA hF hB
    go_wp2
    have hrun := run_blk_load (P := Try.prog) 42 w.heap.size _ HV.out Try.underlying42 rfl QVW.out
    exact bodyPost_ret (results_cell_tmp 6 42 7 w.heap.size _ Try.results39 rfl hrun) rfl ⟨rfl, K.out⟩
end Go.Proofs.Ythionipmohbnhaa
namespace Go.Proofs.Ythionipmohbnhaa
open Go.RowKit
theorem tmp_at {a : Act} {s : Nat} {v : Value} (h : a.eval (.tmp s) = v) : a.tmps[s]?.getD undef = v := by
  rw [← h]; simp [Act.eval, Array.getD_eq_getD_getElem?]
theorem st_u16 (Q : Exit → Act → World → Prop) (d s : Nat) (t : TypeId) (pos : String) (af : Array Edge) (K : Act → World → Prop) (a : Act) (w : World) (b j x : Nat) (h : a.eval (.tmp s) = .pointer (some ⟨b, j, none⟩)) (h2 : a.eval (.tmp d) = .int .u16 (x : Int))
    (ty : TypeId) (cs : Array Value) (hc : Blk w b ty cs) (hj : j < cs.size)
    (hK : ∀ w', Blk w' b ty (cs.setIfInBounds j (.int .u16 (x : Int))) → (∀ k, k ≠ b → w'.heap[k]? = w.heap[k]?) → (∀ B, B ≤ b → Below B w w') → K a w') :
    Oper.wp Try.prog { dst := none, op := Op.store 26 (.tmp s) (.tmp d), type := t, pos := pos, after := af, guard := none } a w K Q := by
  have hce := hc.cell j
  rw [Array.getElem?_eq_getElem hj] at hce
  have hf := hc.frozen j
  have h' := tmp_at h
  have h2' := tmp_at h2
  have hk := hK _ (hc.set_ j _) (fun k hk => Below.heap_setCell w ⟨b, j, none⟩ _ k hk) (fun B hB => (Below.refl B w).setCell (p := ⟨b, j, none⟩) hB _)
  generalize cs[j] = vv at hce
  clear h h2 hc hK hj
  go_simp
  exact hk
theorem st_u8' (Q : Exit → Act → World → Prop) (d s : Nat) (t : TypeId) (pos : String) (af : Array Edge) (K : Act → World → Prop) (a : Act) (w : World) (b j x : Nat) (h : a.eval (.tmp s) = .pointer (some ⟨b, j, none⟩)) (h2 : a.eval (.tmp d) = .int .u8 (x : Int))
    (ty : TypeId) (cs : Array Value) (hc : Blk w b ty cs) (hj : j < cs.size)
    (hK : ∀ w', Blk w' b ty (cs.setIfInBounds j (.int .u8 (x : Int))) → (∀ k, k ≠ b → w'.heap[k]? = w.heap[k]?) → (∀ B, B ≤ b → Below B w w') → K a w') :
    Oper.wp Try.prog { dst := none, op := Op.store 5 (.tmp s) (.tmp d), type := t, pos := pos, after := af, guard := none } a w K Q := by
  have hce := hc.cell j
  rw [Array.getElem?_eq_getElem hj] at hce
  have hf := hc.frozen j
  have h' := tmp_at h
  have h2' := tmp_at h2
  have hk := hK _ (hc.set_ j _) (fun k hk => Below.heap_setCell w ⟨b, j, none⟩ _ k hk) (fun B hB => (Below.refl B w).setCell (p := ⟨b, j, none⟩) hB _)
  generalize cs[j] = vv at hce
  clear h h2 hc hK hj
  go_simp
  exact hk
theorem put3 (six : Bool) (n s e f p x y xf : Nat) (S D : Array Value) (hS : S.size = 17) (hD : D.size = 17) (a b : Nat) :
    (((vcells six n s e (kcells p S D a b) f).setIfInBounds 39 (.int .u16 (x : Int))).setIfInBounds 40 (.int .u16 (y : Int))).setIfInBounds 41 (.int .u8 (xf : Int)) = vcells six n s e (kcells p S D x y) xf := by
  obtain ⟨x0, x1, x2, x3, x4, x5, x6, x7, x8, x9, x10, x11, x12, x13, x14, x15, x16, rfl⟩ := arr17 S hS
  obtain ⟨y0, y1, y2, y3, y4, y5, y6, y7, y8, y9, y10, y11, y12, y13, y14, y15, y16, rfl⟩ := arr17 D hD
  rfl
theorem vget (six : Bool) (n s e f p a b : Nat) (S D : Array Value) : (vcells six n s e (kcells p S D a b) f)[0]? = some (.bool six) ∧ (vcells six n s e (kcells p S D a b) f)[1]? = some (.int .i64 (n : Int)) ∧ (vcells six n s e (kcells p S D a b) f)[2]? = some (.int .i64 (s : Int)) ∧
    (vcells six n s e (kcells p S D a b) f)[3]? = some (.int .i64 (e : Int)) ∧ (vcells six n s e (kcells p S D a b) f)[4]? = some (.int .u8 (p : Int)) := ⟨rfl, rfl, rfl, rfl, rfl⟩
set_option maxRecDepth 100000 in
set_option maxHeartbeats 8000000 in
theorem segment_any (v : Value) (zs : List Nat) (at0 : Nat) (six : Bool) (w : World) (hr : Rd w v (nus .u8 zs)) (hb : ∀ c ∈ zs, c < 256) (h1 : 0 < at0) (h2 : at0 ≤ zs.length) (hok : fhr six (zs.drop at0) = 0) :
    Calls Try.prog 40 #[v, .agg (pv six at0 (zs.drop at0))] w fun e w' => e = .returned (.tuple #[.agg (sv six at0 zs), .int .i64 (fs (fP six (zs.drop at0)) (sgT six at0 zs) : Nat)]) ∧ Below w.heap.size w w' := by
  have hsv := (show sv six at0 zs = if fs (fP six (zs.drop at0)) (sgT six at0 zs) = 0 then vcells six at0 (at0 + fS six (zs.drop at0)) (at0 + fL six (zs.drop at0)) (kcells (fP six (zs.drop at0)) (fA six (zs.drop at0)) (fB six (zs.drop at0)) (u2 (sgT six at0 zs) 0) (u2 (sgT six at0 zs) 2)) (fl (fP six (zs.drop at0)) (sgT six at0 zs)) else v0 from rfl)
  have hpt : sgT six at0 zs = (zs.drop (at0 + fS six (zs.drop at0))).take (fL six (zs.drop at0) - fS six (zs.drop at0)) := rfl
  have hsz := sv_size six at0 zs hok
  have hpsz := pv_size six at0 (zs.drop at0)
  have hpall := pv_all six at0 (zs.drop at0)
  have hpv : pv six at0 (zs.drop at0) = vcells six at0 (at0 + fS six (zs.drop at0)) (at0 + fL six (zs.drop at0)) (kcells (fP six (zs.drop at0)) (fA six (zs.drop at0)) (fB six (zs.drop at0)) 0 0) 0 := by unfold pv; rw [if_pos hok]
  have HDD := fhd_yes six _ hok
  have hsS := HDD.sA
  have hsD := HDD.sB
  have h20 := HDD.low
  have hmid := HDD.mid
  have hhigh := HDD.high
  have haA := fA_all six (zs.drop at0)
  have haB := fB_all six (zs.drop at0)
  rw [List.length_drop] at hhigh
  clear HDD hok
  generalize zs.drop at0 = T at *
  generalize sgT six at0 zs = PT at *
  have hbP : ∀ c ∈ PT, c < 256 := by rw [hpt]; exact fun c hc => hb c (List.mem_of_mem_drop (List.mem_of_mem_take hc))
  obtain ⟨a, cap, rfl, hlc, hlm⟩ := rd_shape hr
  obtain ⟨b, off, rfl, -⟩ := hr.cells (by omega)
  generalize fS six T = s at *
  generalize fL six T = l at *
  generalize fP six T = p at *
  generalize fA six T = S at *
  generalize fB six T = D at *
  obtain ⟨sg, hsg⟩ : ∃ x, x = at0 + s := ⟨_, rfl⟩
  obtain ⟨en, hen⟩ : ∃ x, x = at0 + l := ⟨_, rfl⟩
  rw [← hsg, show l - s = en - sg by omega] at hpt
  have hRP := subP hr sg (en - sg) (by omega)
  rw [← hpt] at hRP
  rw [← hsg, ← hen] at hsv hpv
  obtain ⟨P2, hP3⟩ : ∃ P, P = (if cap = sg then some (⟨b, off, none⟩ : Addr) else some ⟨b, off + sg, none⟩) := ⟨_, rfl⟩
  rw [← hP3] at hRP
  have RP := Lib.hid hRP
  have HP2 := Lib.hid hP3
  have hbk : ∀ (z : Value) (W : World), Rd W z (nus .u8 PT) → Calls Try.prog 53 #[.int .u8 (p : Int), z] W fun e w' => e = .returned (.tuple #[.agg (hs7 p PT), .int .i64 (fs p PT : Nat)]) ∧ Below W.heap.size W w' := fun z W h => read_any p z PT W h hbP
  have CR := Lib.hid hbk
  have HS7 := Lib.hid (heads p PT hbP)
  have HR7 := Lib.hid (show hs7 p PT = if fs p PT = 0 then #[.int .u16 (u2 PT 0 : Nat), .int .u16 (u2 PT 2 : Nat), .int .u8 (fl p PT : Nat)] else #[.int .u16 0, .int .u16 0, .int .u8 0] from rfl)
  have hu0 := u2_lt PT 0 hbP
  have hu2 := u2_lt PT 2 hbP
  have YR : Hid ((hs7 p PT).size = Array.size (#[Value.int .u16 0, .int .u16 0, .int .u8 0] : Array Value)) := hs7_size p PT
  have ZR := Lib.hid (i30.trans (congrArg some (hs7_size p PT).symm))
  have AR := Lib.hid (hs7_all p PT)
  have Y0 : Hid (v0.size = Array.size (ZcV : Array Value)) := v0_size
  have Z0 := Lib.hid (i72.trans (congrArg some v0_size.symm))
  have A0 := Lib.hid v0_all
  have HSV := Lib.hid hsv
  have P3 := Lib.hid (fun x y xf => put3 six at0 sg en 0 p x y xf S D hsS hsD 0 0)
  have YVW : Hid ((sv six at0 zs).size = Array.size (ZcV : Array Value)) := hsz
  have QVW := Lib.hid (i72.trans (congrArg some hsz.symm))
  have AVW := Lib.hid (sv_all six at0 zs)
  obtain ⟨-, -, q2, q3, q4⟩ := vget six at0 sg en 0 p 0 0 S D
  rw [← hpv] at q2 q3 q4 P3
  have H2 := Lib.hid q2
  have H3 := Lib.hid q3
  have H4 := Lib.hid q4
  generalize pv six at0 T = PV at *
  have YPV : Hid (PV.size = Array.size (ZcV : Array Value)) := hpsz
  have ZPV := Lib.hid (i72.trans (congrArg some hpsz.symm))
  have NPV := Lib.hid hpsz
  generalize sv six at0 zs = VW at *
  have K := Lib.hid (Below.refl w.heap.size w)
  have hse : sg ≤ en := by omega
  have hen2 : en ≤ zs.length := by omega
  generalize zs.length = n at *
  unfold maxLen at hlm
  clear hr hb hsv hpt hsz hpsz hpall hpv hsS hsD haA haB q2 q3 q4 hRP hP3 hbk hbP hsg hen h20 hmid hhigh
  generalize hs7 p PT = RS at *
  generalize fs p PT = r2 at *
  go_enter Try.func40, Try.ntmps40
  have hal := (Below.refl w.heap.size w).alloc (Nat.le_refl _) (.cells PV 42)
  replace K := Lib.hid (K.out.trans (hal.mono K.out.size))
  have HX := Lib.hid (Blk.new w 42 PV)
  clear hal
  have hal := (Below.refl (w.alloc (.cells PV 42)).heap.size (w.alloc (.cells PV 42))).alloc (Nat.le_refl _) (.cells ZcV 42)
  replace K := Lib.hid (K.out.trans (hal.mono K.out.size))
  replace HX := Lib.hid (HX.out.below hal HX.out.lt)
  have HVq := Blk.new (w.alloc (.cells PV 42)) 42 ZcV
  simp only [World.size_alloc] at HVq
  have HV := Lib.hid HVq
  clear HVq
  clear hal
  go_upto_region 1 with fail
  have hzV1 : Hid (((w.alloc (.cells PV 42)).alloc (.cells ZcV 42)).heap.size = w.heap.size + 1 + 1) := by show _ = _; simp only [World.size_alloc]
  generalize ((w.alloc (.cells PV 42)).alloc (.cells ZcV 42)) = V1 at *
  have hlow : V1.heap.size ≤ V1.heap.size := Nat.le_refl _
  have qK := K.out.size
  have qX := HX.out.lt
  have qV := HV.out.lt
  go_cut [6, 7] (fun v r wx => ∃ g, v = .pointer (some ⟨g, 0, none⟩) ∧ r = .int .i64 (r2 : Int) ∧ Blk wx g 94 RS ∧ Blk wx (w.heap.size) 42 PV ∧ Blk wx (w.heap.size + 1) 42 ZcV ∧ V1.heap.size ≤ g ∧ Below w.heap.size w wx)
  case first =>
    refine wp_region_held (S := (fun w' : World => Below (V1.heap.size) V1 w')) (by kernel_rfl) ?_
    change wpAnyH _ _ _ _ _ _ _ _ V1.drew
    have hy : Below V1.heap.size V1 V1.drew := (Below.refl _ _).drew
    have hE0 : Below (V1.heap.size) V1 V1.drew := (Below.refl _ _).drew
    clear hy
    generalize V1.drew = Y1x0 at hE0  ⊢
    have E0 := Lib.hid hE0
    clear hE0
    refine tkA 0 (?_) ?_ E0.out ?_
    rotate_left
    · (intro w1 hS; go_simp; try with_reducible rfl)
    simp only [Act.put, tS1, tS2, tS3]
    refine tkA 1 (?_) ?_ E0.out ?_
    rotate_left
    · (intro w1 hS; go_simp; try with_reducible rfl)
    simp only [Act.put, tS1, tS2, tS3]
    refine tkA 2 (?_) ?_ E0.out ?_
    rotate_left
    · (intro w1 hS; have hW := hS; have q := ((HX.out.below hW HX.out.lt).cell 4).trans H4.out; clear hW hS; go_simp; try with_reducible rfl)
    simp only [Act.put, tS1, tS2, tS3]
    refine tkA 3 (?_) ?_ E0.out ?_
    rotate_left
    · (intro w1 hS; go_simp; try with_reducible rfl)
    simp only [Act.put, tS1, tS2, tS3]
    refine tkA 4 (?_) ?_ E0.out ?_
    rotate_left
    · (intro w1 hS; go_simp; try with_reducible rfl)
    simp only [Act.put, tS1, tS2, tS3]
    refine tkA 5 (?_) ?_ E0.out ?_
    rotate_left
    · (intro w1 hS; have hW := hS; have q := ((HX.out.below hW HX.out.lt).cell 2).trans H2.out; clear hW hS; go_simp; try with_reducible rfl)
    simp only [Act.put, tS1, tS2, tS3]
    refine tkA 6 (?_) ?_ E0.out ?_
    rotate_left
    · (intro w1 hS; go_simp; try with_reducible rfl)
    simp only [Act.put, tS1, tS2, tS3]
    refine tkA 7 (?_) ?_ E0.out ?_
    rotate_left
    · (intro w1 hS; have hW := hS; have q := ((HX.out.below hW HX.out.lt).cell 3).trans H3.out; clear hW hS; go_simp; try with_reducible rfl)
    simp only [Act.put, tS1, tS2, tS3]
    refine tkA 8 (?_) ?_ E0.out ?_
    rotate_left
    · (intro w1 hS; have hW := hS; have q : (sg : Int) ≤ (en : Int) := (by omega); have q3 : (en : Int) ≤ (cap : Int) := (by omega); have q2 := HP2.out.symm; clear hW hS; go_simp; try with_reducible rfl)
    simp only [Act.put, tS1, tS2, tS3]
    clear HP2
    refine wpAnyH_ready (rs := [9, 13]) (by kernel_rfl) (by simp) ?_
    refine AllReadyH.cons (o := { dst := some 18, op := Op.call { callee := Callee.value (Operand.func 53), args := #[Operand.tmp 11, Operand.tmp 17], argTypes := #[5, 22] }, type := 95, pos := "frame.go:69", after := #[{ on := 2, ground := Ground.data }, { on := 8, ground := Ground.data }], guard := none }) rfl (fun KK hK => ?_) ?_
    · go_simp
      refine (CR.out _ Y1x0 ((RP.out.below (K.out.trans (E0.out.mono qK))))).mono ?_
      rintro e Y1x1 ⟨rfl, hy⟩
      have E1 := Lib.hid (E0.out.trans (hy.mono (Nat.le_trans hlow E0.out.size)))
      have C1 := Lib.hid E1.out
      clear hy E0
      refine hK.out _ _ C1.out (fun _ => ?_)
      clear hK KK
      clear C1
      try simp only [Act.put, tS1, tS2, tS3]
      refine tkA 10 (?_) ?_ E1.out ?_
      rotate_left
      · (intro w1 hS; go_simp; try with_reducible rfl)
      simp only [Act.put, tS1, tS2, tS3]
      refine tkA 11 (?_) ?_ E1.out ?_
      rotate_left
      · (intro w1 hS; go_simp; try with_reducible rfl)
      simp only [Act.put, tS1, tS2, tS3]
      refine tkA 12 (?_) ?_ E1.out ?_
      rotate_left
      · (intro w1 hS; go_simp; try with_reducible rfl)
      simp only [Act.put, tS1, tS2, tS3]
      refine tkO 13 (fun KK hK => ?_)
      go_simp
      have NR := Blk.new Y1x1 94 #[Value.int .u16 0, .int .u16 0, .int .u8 0]
      have hy := (Below.refl Y1x1.heap.size Y1x1).alloc (Nat.le_refl _) (.cells #[Value.int .u16 0, .int .u16 0, .int .u8 0] 94)
      have gNR := Nat.le_trans (Nat.le_of_eq rfl) E1.out.size
      generalize Y1x1.alloc (.cells #[Value.int .u16 0, .int .u16 0, .int .u8 0] 94) = Y1x2 at NR hy ⊢
      replace NR := Lib.hid NR
      have E2 := Lib.hid (E1.out.trans (hy.mono (Nat.le_trans hlow E1.out.size)))
      have C2 := Lib.hid E2.out
      clear hy E1
      refine hK.out _ _ C2.out (fun _ => ?_)
      clear hK KK
      clear C2
      try simp only [Act.put, tS1, tS2, tS3]
      refine tkO 14 (fun KK hK => ?_)
      rw [if_pos (by rfl)]
      refine wp_blk_store 94 (.tmp 6) (.tmp 19) rfl RS rfl rfl NR.out YR.out ZR.out AR.out ?_
      intro Y1x3 hA hF hB
      have E3 := Lib.hid (E2.out.trans (hB _ gNR))
      replace NR := Lib.hid hA
      clear hA hF hB E2
      refine hK.out _ _ E3.out (fun _ => ?_)
      clear hK KK
      try simp only [Act.put]
      refine tkA 15 (?_) ?_ E3.out ?_
      rotate_left
      · (intro w1 hS; go_simp; try with_reducible rfl)
      simp only [Act.put, tS1, tS2, tS3]
      refine wpAnyH_done (by kernel_rfl) ?_ _
      go_wp2
      go_meet
      exact ⟨_, rfl, rfl, NR.out, HX.out.below E3.out qX, HV.out.below E3.out qV, gNR, K.out.trans (E3.out.mono qK)⟩
    refine AllReadyH.cons (o := { dst := some 6, op := Op.alloc 94, type := 0, pos := "frame.go:69", after := #[], guard := none }) rfl (fun KK hK => ?_) AllReadyH.nil
    go_simp
    have NR := Blk.new Y1x0 94 #[Value.int .u16 0, .int .u16 0, .int .u8 0]
    have hy := (Below.refl Y1x0.heap.size Y1x0).alloc (Nat.le_refl _) (.cells #[Value.int .u16 0, .int .u16 0, .int .u8 0] 94)
    have gNR := Nat.le_trans (Nat.le_of_eq rfl) E0.out.size
    generalize Y1x0.alloc (.cells #[Value.int .u16 0, .int .u16 0, .int .u8 0] 94) = Y1x1 at NR hy ⊢
    replace NR := Lib.hid NR
    have E1 := Lib.hid (E0.out.trans (hy.mono (Nat.le_trans hlow E0.out.size)))
    have C1 := Lib.hid E1.out
    clear hy E0
    refine hK.out _ _ C1.out (fun _ => ?_)
    clear hK KK
    clear C1
    try simp only [Act.put, tS1, tS2, tS3]
    refine tkO 9 (fun KK hK => ?_)
    go_simp
    refine (CR.out _ Y1x1 ((RP.out.below (K.out.trans (E1.out.mono qK))))).mono ?_
    rintro e Y1x2 ⟨rfl, hy⟩
    replace NR := Lib.hid (NR.out.below hy NR.out.lt)
    have E2 := Lib.hid (E1.out.trans (hy.mono (Nat.le_trans hlow E1.out.size)))
    have C2 := Lib.hid E2.out
    clear hy E1
    refine hK.out _ _ C2.out (fun _ => ?_)
    clear hK KK
    clear C2
    try simp only [Act.put, tS1, tS2, tS3]
    refine tkA 10 (?_) ?_ E2.out ?_
    rotate_left
    · (intro w1 hS; go_simp; try with_reducible rfl)
    simp only [Act.put, tS1, tS2, tS3]
    refine tkA 11 (?_) ?_ E2.out ?_
    rotate_left
    · (intro w1 hS; go_simp; try with_reducible rfl)
    simp only [Act.put, tS1, tS2, tS3]
    refine tkA 12 (?_) ?_ E2.out ?_
    rotate_left
    · (intro w1 hS; go_simp; try with_reducible rfl)
    simp only [Act.put, tS1, tS2, tS3]
    refine tkO 14 (fun KK hK => ?_)
    rw [if_pos (by rfl)]
    refine wp_blk_store 94 (.tmp 6) (.tmp 19) rfl RS rfl rfl NR.out YR.out ZR.out AR.out ?_
    intro Y1x3 hA hF hB
    have E3 := Lib.hid (E2.out.trans (hB _ gNR))
    replace NR := Lib.hid hA
    clear hA hF hB E2
    refine hK.out _ _ E3.out (fun _ => ?_)
    clear hK KK
    try simp only [Act.put]
    refine tkA 15 (?_) ?_ E3.out ?_
    rotate_left
    · (intro w1 hS; go_simp; try with_reducible rfl)
    simp only [Act.put, tS1, tS2, tS3]
    refine wpAnyH_done (by kernel_rfl) ?_ _
    go_wp2
    go_meet
    exact ⟨_, rfl, rfl, NR.out, HX.out.below E3.out qX, HV.out.below E3.out qV, gNR, K.out.trans (E3.out.mono qK)⟩
  case rest =>
    obtain ⟨g, rfl, rfl, hG, hX, hV, hgl, hK⟩ := hcut
    clear K HX HV hlow
    have G := Lib.hid hG
    have K := Lib.hid hK
    have HX := Lib.hid hX
    have HV := Lib.hid hV
    clear hG hX hV hK CR RP
    have qz := hzV1.out
    by_cases hr2 : r2 = 0
    case neg =>
      have hV0 : v0 = VW := by rw [HSV.out, if_neg hr2]
      subst hV0
      have g0 : ((r2 : Int) != 0) = true := by simp; omega
      clear hr2
      go_wp2_with (((with_reducible refine wpList_blk_store (op := ⟨none, .store 42 (.tmp 4) (.tmp 23), _, _, _, _⟩) ?sg1 42 (.tmp 4) (.tmp 23) ?so1 (w.heap.size + 1) v0 ?sx1 ?sy1 HV.out Y0.out Z0.out A0.out ?_); (case sg1 => rfl); (case so1 => rfl); (case sx1 => rfl); (case sy1 => rfl)))
      intro V91 hA hF hB
      replace K := Lib.hid (K.out.trans (hB _ (by omega)))
      replace HX := Lib.hid (show Blk _ _ _ _ from (hF _ (by omega)).trans HX.out)
      replace G := Lib.hid (show Blk _ _ _ _ from (hF _ (by omega)).trans G.out)
      replace HV := Lib.hid hA
      clear hA hF hB
      go_wp2
      have hrun := run_blk_load (P := Try.prog) 42 (w.heap.size + 1) _ HV.out Try.underlying42 rfl Z0.out
      exact bodyPost_ret (results_cell_tmp 4 42 5 (w.heap.size + 1) _ Try.results40 rfl hrun) rfl ⟨rfl, K.out⟩
    have hV0 := HSV.out
    rw [if_pos hr2] at hV0
    have hRS := HR7.out
    rw [if_pos hr2] at hRS
    clear HSV HR7 HS7
    subst hr2
    generalize u2 PT 0 = x0 at *
    generalize u2 PT 2 = x2 at *
    generalize fl p PT = xf at *
    have G0 := Lib.hid (show RS[0]? = some (.int .u16 (x0 : Int)) by rw [hRS]; rfl)
    have G1 := Lib.hid (show RS[1]? = some (.int .u16 (x2 : Int)) by rw [hRS]; rfl)
    have G2 := Lib.hid (show RS[2]? = some (.int .u8 (xf : Int)) by rw [hRS]; rfl)
    have PP := Lib.hid ((P3.out x0 x2 xf).trans hV0.symm)
    clear P3 hV0 hRS
    go_wp2_with fail
    refine wp_region_held (S := (fun w' : World => Blk w' g 94 RS)) (by kernel_rfl) ?_
    change wpAnyH _ _ _ _ _ _ _ _ wc.drew
    have hy : Below wc.heap.size wc wc.drew := (Below.refl _ _).drew
    replace K := Lib.hid (K.out.trans (hy.mono K.out.size))
    replace HX := Lib.hid (HX.out.below hy HX.out.lt)
    replace HV := Lib.hid (HV.out.below hy HV.out.lt)
    replace G := Lib.hid (G.out.below hy G.out.lt)
    clear hy
    generalize wc.drew = Y0 at *
    refine tkA 0 (?_) ?_ G.out ?_
    rotate_left
    · (intro w1 hS; clear hS; go_simp; try with_reducible rfl)
    simp only [Act.put, tS1, tS2, tS3]
    refine tkA 1 (?_) ?_ G.out ?_
    rotate_left
    · (intro w1 hS; have q := (hS.cell 0).trans G0.out; clear hS; go_simp; try with_reducible rfl)
    simp only [Act.put, tS1, tS2, tS3]
    refine tkA 2 (?_) ?_ G.out ?_
    rotate_left
    · (intro w1 hS; clear hS; go_simp; try with_reducible rfl)
    simp only [Act.put, tS1, tS2, tS3]
    refine tkA 3 (?_) ?_ G.out ?_
    rotate_left
    · (intro w1 hS; have q := (hS.cell 1).trans G1.out; clear hS; go_simp; try with_reducible rfl)
    simp only [Act.put, tS1, tS2, tS3]
    refine tkA 4 (?_) ?_ G.out ?_
    rotate_left
    · (intro w1 hS; clear hS; go_simp; try with_reducible rfl)
    simp only [Act.put, tS1, tS2, tS3]
    refine tkA 5 (?_) ?_ G.out ?_
    rotate_left
    · (intro w1 hS; have q := (hS.cell 2).trans G2.out; clear hS; go_simp; try with_reducible rfl)
    simp only [Act.put, tS1, tS2, tS3]
    refine tkA 6 (?_) ?_ G.out ?_
    rotate_left
    · (intro w1 hS; clear hS; go_simp; try with_reducible rfl)
    simp only [Act.put, tS1, tS2, tS3]
    refine tkA 7 (?_) ?_ G.out ?_
    rotate_left
    · (intro w1 hS; clear hS; go_simp; try with_reducible rfl)
    simp only [Act.put, tS1, tS2, tS3]
    refine tkO 8 (fun KK hK => ?_)
    rw [if_pos (by rfl)]
    refine st_u16 _ _ _ _ _ _ KK _ _ (w.heap.size) 39 x0 rfl rfl 42 _ HX.out (by have q := NPV.out; (try simp only [Array.size_setIfInBounds]); omega) ?_
    intro Y1 hA hF hB
    replace G := Lib.hid (show Blk Y1 g 94 RS from (hF g (by omega)).trans G.out)
    replace HV := Lib.hid (show Blk Y1 _ _ _ from (hF _ (by omega)).trans HV.out)
    replace K := Lib.hid (K.out.trans (hB _ (Nat.le_refl _)))
    replace HX := Lib.hid hA
    clear hA hF hB
    refine hK.out _ _ G.out (fun _ => ?_)
    clear hK KK
    refine tkA 9 (?_) ?_ G.out ?_
    rotate_left
    · (intro w1 hS; clear hS; go_simp; try with_reducible rfl)
    simp only [Act.put, tS1, tS2, tS3]
    refine tkA 10 (?_) ?_ G.out ?_
    rotate_left
    · (intro w1 hS; clear hS; go_simp; try with_reducible rfl)
    simp only [Act.put, tS1, tS2, tS3]
    refine tkO 11 (fun KK hK => ?_)
    rw [if_pos (by rfl)]
    refine st_u16 _ _ _ _ _ _ KK _ _ (w.heap.size) 40 x2 rfl rfl 42 _ HX.out (by have q := NPV.out; (try simp only [Array.size_setIfInBounds]); omega) ?_
    intro Y2 hA hF hB
    replace G := Lib.hid (show Blk Y2 g 94 RS from (hF g (by omega)).trans G.out)
    replace HV := Lib.hid (show Blk Y2 _ _ _ from (hF _ (by omega)).trans HV.out)
    replace K := Lib.hid (K.out.trans (hB _ (Nat.le_refl _)))
    replace HX := Lib.hid hA
    clear hA hF hB
    refine hK.out _ _ G.out (fun _ => ?_)
    clear hK KK
    refine tkA 12 (?_) ?_ G.out ?_
    rotate_left
    · (intro w1 hS; clear hS; go_simp; try with_reducible rfl)
    simp only [Act.put, tS1, tS2, tS3]
    refine tkO 13 (fun KK hK => ?_)
    rw [if_pos (by rfl)]
    refine st_u8' _ _ _ _ _ _ KK _ _ (w.heap.size) 41 xf rfl rfl 42 _ HX.out (by have q := NPV.out; (try simp only [Array.size_setIfInBounds]); omega) ?_
    intro Y3 hA hF hB
    replace G := Lib.hid (show Blk Y3 g 94 RS from (hF g (by omega)).trans G.out)
    replace HV := Lib.hid (show Blk Y3 _ _ _ from (hF _ (by omega)).trans HV.out)
    replace K := Lib.hid (K.out.trans (hB _ (Nat.le_refl _)))
    replace HX := Lib.hid hA
    clear hA hF hB
    refine hK.out _ _ G.out (fun _ => ?_)
    clear hK KK
    refine wpAnyH_done (by kernel_rfl) ?_ _
    rw [PP.out] at HX
    have L2 : (loadVar 42 ⟨w.heap.size, 0, none⟩).run Try.prog Y3 = .ok (.agg VW) Y3 := run_blk_load (P := Try.prog) 42 (w.heap.size) _ HX.out Try.underlying42 rfl QVW.out
    replace L2 := Lib.hid L2
    go_wp2_with (first | ((with_reducible refine wpList_load_want (op := ⟨some 36, .load 42 (.tmp 3), _, _, _, _⟩) ?wg2 42 (.tmp 3) ?wo2 ⟨w.heap.size, 0, none⟩ ?wx2 (.agg VW) L2.out ?_); (case wg2 => rfl); (case wo2 => rfl); (case wx2 => rfl)) | ((with_reducible refine wpList_blk_store (op := ⟨none, .store 42 (.tmp 4) (.tmp 36), _, _, _, _⟩) ?sg3 42 (.tmp 4) (.tmp 36) ?so3 (w.heap.size + 1) VW ?sx3 ?sy3 HV.out YVW.out QVW.out AVW.out ?_); (case sg3 => rfl); (case so3 => rfl); (case sx3 => rfl); (case sy3 => rfl)))
    clear L2
    intro V91 hA hF hB
    replace K := Lib.hid (K.out.trans (hB _ (by omega)))
    replace HX := Lib.hid (show Blk _ _ _ _ from (hF _ (by omega)).trans HX.out)
    replace G := Lib.hid (show Blk _ _ _ _ from (hF _ (by omega)).trans G.out)
    replace HV := Lib.hid hA
    clear hA hF hB
    go_wp2
    have hrun := run_blk_load (P := Try.prog) 42 (w.heap.size + 1) _ HV.out Try.underlying42 rfl QVW.out
    exact bodyPost_ret (results_cell_tmp 4 42 5 (w.heap.size + 1) _ Try.results40 rfl hrun) rfl ⟨rfl, K.out⟩
end Go.Proofs.Ythionipmohbnhaa
