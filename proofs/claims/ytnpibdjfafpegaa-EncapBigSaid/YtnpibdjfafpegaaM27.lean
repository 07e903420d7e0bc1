/- Texts that the walks of this seat lean on, put together. -/
import Derived.Test.YtnpibdjfafpegaaTk
import Derived.Test.YtnpibdjfafpegaaM16
import Derived.Test.YtnpibdjfafpegaaM22
import Derived.Test.YtnpibdjfafpegaaM26
namespace Go.Proofs.Ytnpibdjfafpegaa
open Go.RowKit
set_option maxRecDepth 100000 in
theorem built_key3 (p : Nat) (S D : Array Value) (hS : S.size = 17) (hD : D.size = 17) : Try.prog.built 30 [(0, .int .u8 (p : Int)), (1, .agg S), (2, .agg D)] = some (kcells p S D 0 0) := by
  obtain ⟨x0, x1, x2, x3, x4, x5, x6, x7, x8, x9, x10, x11, x12, x13, x14, x15, x16, rfl⟩ := arr17 S hS
  obtain ⟨y0, y1, y2, y3, y4, y5, y6, y7, y8, y9, y10, y11, y12, y13, y14, y15, y16, rfl⟩ := arr17 D hD
  kernel_rfl
set_option maxRecDepth 100000 in
theorem built_view4 (n s e p : Nat) (S D : Array Value) (hS : S.size = 17) (hD : D.size = 17) :
    Try.prog.built 50 [(1, .int .i64 (n : Int)), (2, .int .i64 (s : Int)), (3, .int .i64 (e : Int)), (4, .agg (kcells p S D 0 0))] = some (vcells false n s e (kcells p S D 0 0) 0) := by
  obtain ⟨x0, x1, x2, x3, x4, x5, x6, x7, x8, x9, x10, x11, x12, x13, x14, x15, x16, rfl⟩ := arr17 S hS
  obtain ⟨y0, y1, y2, y3, y4, y5, y6, y7, y8, y9, y10, y11, y12, y13, y14, y15, y16, rfl⟩ := arr17 D hD
  kernel_rfl
set_option maxRecDepth 100000 in
theorem built_view6 (n s e p : Nat) (S D : Array Value) (hS : S.size = 17) (hD : D.size = 17) :
    Try.prog.built 50 [(0, .bool true), (1, .int .i64 (n : Int)), (2, .int .i64 (s : Int)), (3, .int .i64 (e : Int)), (4, .agg (kcells p S D 0 0))] = some (vcells true n s e (kcells p S D 0 0) 0) := by
  obtain ⟨x0, x1, x2, x3, x4, x5, x6, x7, x8, x9, x10, x11, x12, x13, x14, x15, x16, rfl⟩ := arr17 S hS
  obtain ⟨y0, y1, y2, y3, y4, y5, y6, y7, y8, y9, y10, y11, y12, y13, y14, y15, y16, rfl⟩ := arr17 D hD
  kernel_rfl
set_option maxRecDepth 100000 in
set_option maxHeartbeats 4000000 in
theorem four_any (v : Value) (zs : List Nat) (at0 : Nat) (w : World) (hr : Rd w v (nus .u8 zs)) (hb : ∀ c ∈ zs, c < 256) (h1 : 0 < at0) (h2 : at0 ≤ zs.length) :
    Calls Try.prog 52 #[v, .int .i64 (at0 : Int)] w fun e w' => e = .returned (.tuple #[.agg (pv false at0 (zs.drop at0)), .int .i64 (ff (zs.drop at0) : Nat)]) ∧ Below w.heap.size w w' := by
  obtain ⟨T, hT⟩ : ∃ T, T = zs.drop at0 := ⟨_, rfl⟩
  rw [← hT]
  have hbT : ∀ c ∈ T, c < 256 := by rw [hT]; exact fun c hc => hb c (List.mem_of_mem_drop hc)
  have lT : T.length = zs.length - at0 := by rw [hT, List.length_drop]
  obtain ⟨a, cap, rfl, hlc, hlm⟩ := rd_shape hr
  obtain ⟨b, off, rfl, -⟩ := hr.cells (by omega)
  have CH := Lib.hid (show ∀ W z, Rd W z (nus .u8 T) → Calls Try.prog 60 #[z] W fun e w' => e = .returned (.tuple #[.agg (hd T), .int .i64 (ff T : Nat)]) ∧ Below W.heap.size W w' from fun W z h => read4_any z T W h hbT)
  have hRT := subP hr at0 (zs.length - at0) (by omega)
  rw [List.take_of_length_le (by rw [List.length_drop]; omega), ← hT] at hRT
  obtain ⟨P, hP⟩ : ∃ P, P = (if cap = at0 then some (⟨b, off, none⟩ : Addr) else some ⟨b, off + at0, none⟩) := ⟨_, rfl⟩
  rw [← hP] at hRT
  have RT := Lib.hid hRT
  have K := Lib.hid (Below.refl w.heap.size w)
  have hsz : (hd T).size = 37 := (fhd_size false) T
  have hall : (hd T).all (·.oneCell') = true := (fhd_all false) T
  have YH : Hid ((hd T).size = Array.size (Zc37 : Array Value)) := hsz
  have ZH := Lib.hid (i29.trans (congrArg some hsz.symm))
  have AH := Lib.hid hall
  clear hsz hall
  have Y0 : Hid (v0.size = Array.size (ZcV : Array Value)) := v0_size
  have Z0 := Lib.hid (i72.trans (congrArg some v0_size.symm))
  have A0 := Lib.hid v0_all
  have HPV := Lib.hid (show pv false at0 T = if ff T = 0 then vcells false at0 (at0 + fS false T) (at0 + fL false T) (kcells (fP false T) (fA false T) (fB false T) 0 0) 0 else v0 from rfl)
  have HHD := Lib.hid (fhd_yes false T)
  have YVW : Hid ((pv false at0 T).size = Array.size (ZcV : Array Value)) := pv_size _ _ _
  have QVW := Lib.hid (i72.trans (congrArg some (pv_size false at0 T).symm))
  have AVW := Lib.hid (pv_all false at0 T)
  have HL := Lib.hid lT
  have HHH := Lib.hid (show hd T = hd T from rfl)
  have hfl := fhr_lt false T
  rw [show fhr false T = ff T from rfl] at hfl
  clear hr hRT hT hb hbT lT
  have hP2 := hP.symm
  clear hP
  generalize hHE : hd T = H at *
  have HHE := Lib.hid hHE
  clear hHE HHH
  generalize hFR : ff T = fr at *
  have HFR := Lib.hid hFR
  clear hFR
  generalize pv false at0 T = VW at *
  generalize zs.length = n at *
  unfold maxLen at hlm
  go_enter Try.func52, Try.ntmps52
  have hal := (Below.refl w.heap.size w).alloc (Nat.le_refl _) (.cells ZcV 50)
  replace K := Lib.hid (K.out.trans (hal.mono K.out.size))
  have HV := Lib.hid (Blk.new w 50 ZcV)
  clear hal
  go_wp2_with fail
  have hzV1 : Hid ((w.alloc (.cells ZcV 50)).heap.size = w.heap.size + 1) := by show _ = _; simp only [World.size_alloc]
  generalize (w.alloc (.cells ZcV 50)) = V1 at *
  refine (CH.out _ _ (RT.out.below K.out)).mono ?_
  rintro e V2 ⟨rfl, hy⟩
  replace K := Lib.hid (K.out.trans (hy.mono K.out.size))
  replace HV := Lib.hid (HV.out.below hy HV.out.lt)
  clear hy
  go_wp2_with (((with_reducible refine wpList_blk_store (op := ⟨none, .store 110 (.tmp 6) (.tmp 13), _, _, _, _⟩) ?sg1 110 (.tmp 6) (.tmp 13) ?so1 (V2.heap.size) H ?sx1 ?sy1 (Blk.new V2 110 Zc37) YH.out ZH.out AH.out ?_); (case sg1 => rfl); (case so1 => rfl); (case sx1 => rfl); (case sy1 => rfl)))
  have qHVHB : w.heap.size < V2.heap.size := HV.out.lt
  intro V3 hA hF hB
  have hy := ((Below.refl V2.heap.size V2).alloc (Nat.le_refl _) (.cells Zc37 110)).trans (hB _ (Nat.le_refl _))
  replace K := Lib.hid (K.out.trans (hy.mono K.out.size))
  replace HV := Lib.hid (HV.out.below hy HV.out.lt)
  have HB := Lib.hid hA
  clear hA hF hB hy
  by_cases hfr : fr = 0
  case neg =>
    have hV : v0 = VW := by rw [HPV.out, if_neg hfr]
    subst hV
    have g0 : ((fr : Int) != 0) = true := by simp; omega
    clear hfr
    go_wp2_with (((with_reducible refine wpList_blk_store (op := ⟨none, .store 50 (.tmp 4) (.tmp 17), _, _, _, _⟩) ?sg2 50 (.tmp 4) (.tmp 17) ?so2 (w.heap.size) v0 ?sx2 ?sy2 HV.out Y0.out Z0.out A0.out ?_); (case sg2 => rfl); (case so2 => rfl); (case sx2 => rfl); (case sy2 => rfl)))
    intro V4 hA hF hB
    replace K := Lib.hid (K.out.trans (hB _ (by omega)))
    replace HB := Lib.hid (show Blk _ _ _ _ from (hF _ (by omega)).trans HB.out)
    replace HV := Lib.hid hA
    clear hA hF hB
    go_wp2
    have hrun := run_blk_load (P := Try.prog) 50 w.heap.size _ HV.out Try.underlying50 rfl Z0.out
    exact bodyPost_ret (results_cell_tmp 4 50 5 w.heap.size _ Try.results52 rfl hrun) rfl ⟨rfl, K.out⟩
  have HDD := HHD.out (HFR.out.trans hfr)
  have hX : H = hcells (fS false T) (fL false T) (fP false T) (fA false T) (fB false T) := HHE.out.symm.trans HDD.hd
  have hsS := HDD.sA
  have hsD := HDD.sB
  have hhigh := HDD.high
  have haA := fA_all false T
  have haB := fB_all false T
  have hsl := HDD.mid
  rw [HL.out] at hhigh
  have hpv := HPV.out
  rw [if_pos hfr] at hpv
  clear HHD HHE HFR HL HPV HDD CH
  subst hfr
  generalize fS false T = s at *
  generalize fL false T = l at *
  generalize fP false T = p at *
  generalize fA false T = S at *
  generalize fB false T = D at *
  have H0 := Lib.hid (show H[0]? = some (.int .i64 (s : Int)) by rw [hX]; exact (hcells_get s l p S D).1)
  have H1 := Lib.hid (show H[1]? = some (.int .i64 (l : Int)) by rw [hX]; exact (hcells_get s l p S D).2.1)
  have H2 := Lib.hid (show H[2]? = some (.int .u8 (p : Int)) by rw [hX]; exact (hcells_get s l p S D).2.2)
  have PS := Lib.hid (show (H.toList.drop 3).take S.toList.length = S.toList by rw [hX]; exact rcells_src s l p S D)
  have PD := Lib.hid (show (H.toList.drop 20).take D.toList.length = D.toList by rw [hX]; exact rcells_dst s l p S D hsS)
  have wa1 := Lib.hid (show IntKind.i64.wrap ((at0 : Int) + (s : Int)) = ((at0 + s : Nat) : Int) by rw [IntKind.wrap_i64]; omega)
  have wa2 := Lib.hid (show IntKind.i64.wrap ((at0 : Int) + (l : Int)) = ((at0 + l : Nat) : Int) by rw [IntKind.wrap_i64]; omega)
  have BV := Lib.hid (built_view4 at0 (at0 + s) (at0 + l) p S D hsS hsD)
  generalize at0 + s = sg at *
  generalize at0 + l = en at *
  have BK := Lib.hid (built_key3 p S D hsS hsD)
  have IS := Lib.hid (i24.trans (congrArg some (show (17 : Nat) = S.toList.length by simp [hsS])))
  have ID := Lib.hid (i24.trans (congrArg some (show (17 : Nat) = D.toList.length by simp [hsD])))
  have yk := kcells_size p S D 0 0 hsS hsD
  have ak := kcells_all p S D 0 0 haA haB
  generalize kcells p S D 0 0 = kc at *
  rw [← hpv] at BV
  have YKC : Hid (kc.size = Array.size (ZcK : Array Value)) := yk
  have ZKC := Lib.hid (i43.trans (congrArg some yk.symm))
  have AKC := Lib.hid ak
  have wb1 := wa1.out
  have wb2 := wa2.out
  clear yk ak hpv hX hsS hsD haA haB wa1 wa2 hP2 RT
  have L3 := (HB.out.cell 2).trans H2.out
  have L4 : (loadVar 27 ⟨V2.heap.size, 3, none⟩).run Try.prog V3 = .ok (.agg S) V3 := by have h := run_part_load (P := Try.prog) 27 3 S.toList _ HB.out PS.out Try.underlying27 rfl IS.out; rwa [Array.toArray_toList] at h
  replace L4 := Lib.hid L4
  have L5 : (loadVar 27 ⟨V2.heap.size, 20, none⟩).run Try.prog V3 = .ok (.agg D) V3 := by have h := run_part_load (P := Try.prog) 27 20 D.toList _ HB.out PD.out Try.underlying27 rfl ID.out; rwa [Array.toArray_toList] at h
  replace L5 := Lib.hid L5
  go_wp2_with (first | ((with_reducible refine wpList_load_want (op := ⟨some 22, .load 27 (.tmp 21), _, _, _, _⟩) ?wg4 27 (.tmp 21) ?wo4 ⟨V2.heap.size, 3, none⟩ ?wx4 (.agg S) L4.out ?_); (case wg4 => rfl); (case wo4 => rfl); (case wx4 => rfl)) | ((with_reducible refine wpList_load_want (op := ⟨some 24, .load 27 (.tmp 23), _, _, _, _⟩) ?wg5 27 (.tmp 23) ?wo5 ⟨V2.heap.size, 20, none⟩ ?wx5 (.agg D) L5.out ?_); (case wg5 => rfl); (case wo5 => rfl); (case wx5 => rfl)) | ((with_reducible refine wpList_built2 (op := ⟨some 25, .build 30 #[(0, Operand.tmp 20), (1, Operand.tmp 22), (2, Operand.tmp 24)], _, _, _, _⟩) ?wg25 30 #[(0, Operand.tmp 20), (1, Operand.tmp 22), (2, Operand.tmp 24)] ?wo25 #[(0, .int .u8 (p : Int)), (1, .agg S), (2, .agg D)] ?wv25 kc ?wf25 ?_); (case wg25 => rfl); (case wo25 => rfl); (case wv25 => kernel_rfl); (case wf25 => exact BK.out)) | ((with_reducible refine wpList_blk_store (op := ⟨none, .store 30 (.tmp 7) (.tmp 25), _, _, _, _⟩) ?sg6 30 (.tmp 7) (.tmp 25) ?so6 (V3.heap.size) kc ?sx6 ?sy6 (Blk.new V3 30 ZcK) YKC.out ZKC.out AKC.out ?_); (case sg6 => rfl); (case so6 => rfl); (case sx6 => rfl); (case sy6 => rfl)))
  clear L3 L4 L5
  have qHVNK : w.heap.size < V3.heap.size := HV.out.lt
  have qHBNK : V2.heap.size < V3.heap.size := HB.out.lt
  intro V4 hA hF hB
  have hy := ((Below.refl V3.heap.size V3).alloc (Nat.le_refl _) (.cells ZcK 30)).trans (hB _ (Nat.le_refl _))
  replace K := Lib.hid (K.out.trans (hy.mono K.out.size))
  replace HV := Lib.hid (HV.out.below hy HV.out.lt)
  replace HB := Lib.hid (HB.out.below hy HB.out.lt)
  have NK := Lib.hid hA
  clear hA hF hB hy
  have L7 := (HB.out.cell 0).trans H0.out
  have L8 := (HB.out.cell 1).trans H1.out
  have L9 : (loadVar 30 ⟨V3.heap.size, 0, none⟩).run Try.prog V4 = .ok (.agg kc) V4 := run_blk_load (P := Try.prog) 30 (V3.heap.size) _ NK.out Try.underlying30 rfl ZKC.out
  replace L9 := Lib.hid L9
  go_wp2_with (first | ((with_reducible refine wpList_load_want (op := ⟨some 35, .load 30 (.tmp 7), _, _, _, _⟩) ?wg9 30 (.tmp 7) ?wo9 ⟨V3.heap.size, 0, none⟩ ?wx9 (.agg kc) L9.out ?_); (case wg9 => rfl); (case wo9 => rfl); (case wx9 => rfl)) | ((with_reducible refine wpList_built2 (op := ⟨some 36, .build 50 #[(1, Operand.tmp 26), (2, Operand.tmp 30), (3, Operand.tmp 34), (4, Operand.tmp 35)], _, _, _, _⟩) ?wg36 50 #[(1, Operand.tmp 26), (2, Operand.tmp 30), (3, Operand.tmp 34), (4, Operand.tmp 35)] ?wo36 #[(1, .int .i64 (at0 : Int)), (2, .int .i64 (sg : Int)), (3, .int .i64 (en : Int)), (4, .agg kc)] ?wv36 VW ?wf36 ?_); (case wg36 => rfl); (case wo36 => rfl); (case wv36 => kernel_rfl); (case wf36 => exact BV.out)) | ((with_reducible refine wpList_blk_store (op := ⟨none, .store 50 (.tmp 4) (.tmp 36), _, _, _, _⟩) ?sg10 50 (.tmp 4) (.tmp 36) ?so10 (w.heap.size) VW ?sx10 ?sy10 HV.out YVW.out QVW.out AVW.out ?_); (case sg10 => rfl); (case so10 => rfl); (case sx10 => rfl); (case sy10 => rfl)))
  clear L7 L8 L9
  intro V5 hA hF hB
  replace K := Lib.hid (K.out.trans (hB _ (by omega)))
  replace HB := Lib.hid (show Blk _ _ _ _ from (hF _ (by omega)).trans HB.out)
  replace NK := Lib.hid (show Blk _ _ _ _ from (hF _ (by omega)).trans NK.out)
  replace HV := Lib.hid hA
  clear hA hF hB
  go_wp2
  have hrun := run_blk_load (P := Try.prog) 50 w.heap.size _ HV.out Try.underlying50 rfl QVW.out
  exact bodyPost_ret (results_cell_tmp 4 50 5 w.heap.size _ Try.results52 rfl hrun) rfl ⟨rfl, K.out⟩
set_option maxRecDepth 100000 in
set_option maxHeartbeats 4000000 in
theorem six_any (v : Value) (zs : List Nat) (at0 : Nat) (w : World) (hr : Rd w v (nus .u8 zs)) (hb : ∀ c ∈ zs, c < 256) (h1 : 0 < at0) (h2 : at0 ≤ zs.length) :
    Calls Try.prog 51 #[v, .int .i64 (at0 : Int)] w fun e w' => e = .returned (.tuple #[.agg (pv true at0 (zs.drop at0)), .int .i64 (f6 (zs.drop at0) : Nat)]) ∧ Below w.heap.size w w' := by
  obtain ⟨T, hT⟩ : ∃ T, T = zs.drop at0 := ⟨_, rfl⟩
  rw [← hT]
  have hbT : ∀ c ∈ T, c < 256 := by rw [hT]; exact fun c hc => hb c (List.mem_of_mem_drop hc)
  have lT : T.length = zs.length - at0 := by rw [hT, List.length_drop]
  obtain ⟨a, cap, rfl, hlc, hlm⟩ := rd_shape hr
  obtain ⟨b, off, rfl, -⟩ := hr.cells (by omega)
  have CH := Lib.hid (show ∀ W z, Rd W z (nus .u8 T) → Calls Try.prog 59 #[z] W fun e w' => e = .returned (.tuple #[.agg (hd6 T), .int .i64 (f6 T : Nat)]) ∧ Below W.heap.size W w' from fun W z h => read6_any z T W h hbT)
  have hRT := subP hr at0 (zs.length - at0) (by omega)
  rw [List.take_of_length_le (by rw [List.length_drop]; omega), ← hT] at hRT
  obtain ⟨P, hP⟩ : ∃ P, P = (if cap = at0 then some (⟨b, off, none⟩ : Addr) else some ⟨b, off + at0, none⟩) := ⟨_, rfl⟩
  rw [← hP] at hRT
  have RT := Lib.hid hRT
  have K := Lib.hid (Below.refl w.heap.size w)
  have hsz : (hd6 T).size = 36 := hd6_size T
  have hall : (hd6 T).all (·.oneCell') = true := hd6_all T
  have YH : Hid ((hd6 T).size = Array.size (Zc36 : Array Value)) := hsz
  have ZH := Lib.hid (i100.trans (congrArg some hsz.symm))
  have AH := Lib.hid hall
  clear hsz hall
  have Y0 : Hid (v0.size = Array.size (ZcV : Array Value)) := v0_size
  have Z0 := Lib.hid (i72.trans (congrArg some v0_size.symm))
  have A0 := Lib.hid v0_all
  have HPV := Lib.hid (show pv true at0 T = if f6 T = 0 then vcells true at0 (at0 + fS true T) (at0 + fL true T) (kcells (fP true T) (fA true T) (fB true T) 0 0) 0 else v0 from rfl)
  have HHD := Lib.hid (fhd_yes true T)
  have YVW : Hid ((pv true at0 T).size = Array.size (ZcV : Array Value)) := pv_size _ _ _
  have QVW := Lib.hid (i72.trans (congrArg some (pv_size true at0 T).symm))
  have AVW := Lib.hid (pv_all true at0 T)
  have HL := Lib.hid lT
  have HHH := Lib.hid (show hd6 T = hd6 T from rfl)
  have hfl := fhr_lt true T
  rw [show fhr true T = f6 T from rfl] at hfl
  clear hr hRT hT hb hbT lT
  have hP2 := hP.symm
  clear hP
  generalize hHE : hd6 T = H at *
  have HHE := Lib.hid hHE
  clear hHE HHH
  generalize hFR : f6 T = fr at *
  have HFR := Lib.hid hFR
  clear hFR
  generalize pv true at0 T = VW at *
  generalize zs.length = n at *
  unfold maxLen at hlm
  go_enter Try.func51, Try.ntmps51
  have hal := (Below.refl w.heap.size w).alloc (Nat.le_refl _) (.cells ZcV 50)
  replace K := Lib.hid (K.out.trans (hal.mono K.out.size))
  have HV := Lib.hid (Blk.new w 50 ZcV)
  clear hal
  go_wp2_with fail
  have hzV1 : Hid ((w.alloc (.cells ZcV 50)).heap.size = w.heap.size + 1) := by show _ = _; simp only [World.size_alloc]
  generalize (w.alloc (.cells ZcV 50)) = V1 at *
  refine (CH.out _ _ (RT.out.below K.out)).mono ?_
  rintro e V2 ⟨rfl, hy⟩
  replace K := Lib.hid (K.out.trans (hy.mono K.out.size))
  replace HV := Lib.hid (HV.out.below hy HV.out.lt)
  clear hy
  go_wp2_with (((with_reducible refine wpList_blk_store (op := ⟨none, .store 107 (.tmp 6) (.tmp 13), _, _, _, _⟩) ?sg11 107 (.tmp 6) (.tmp 13) ?so11 (V2.heap.size) H ?sx11 ?sy11 (Blk.new V2 107 Zc36) YH.out ZH.out AH.out ?_); (case sg11 => rfl); (case so11 => rfl); (case sx11 => rfl); (case sy11 => rfl)))
  have qHVHB : w.heap.size < V2.heap.size := HV.out.lt
  intro V3 hA hF hB
  have hy := ((Below.refl V2.heap.size V2).alloc (Nat.le_refl _) (.cells Zc36 107)).trans (hB _ (Nat.le_refl _))
  replace K := Lib.hid (K.out.trans (hy.mono K.out.size))
  replace HV := Lib.hid (HV.out.below hy HV.out.lt)
  have HB := Lib.hid hA
  clear hA hF hB hy
  by_cases hfr : fr = 0
  case neg =>
    have hV : v0 = VW := by rw [HPV.out, if_neg hfr]
    subst hV
    have g0 : ((fr : Int) != 0) = true := by simp; omega
    clear hfr
    go_wp2_with (((with_reducible refine wpList_blk_store (op := ⟨none, .store 50 (.tmp 4) (.tmp 17), _, _, _, _⟩) ?sg12 50 (.tmp 4) (.tmp 17) ?so12 (w.heap.size) v0 ?sx12 ?sy12 HV.out Y0.out Z0.out A0.out ?_); (case sg12 => rfl); (case so12 => rfl); (case sx12 => rfl); (case sy12 => rfl)))
    intro V4 hA hF hB
    replace K := Lib.hid (K.out.trans (hB _ (by omega)))
    replace HB := Lib.hid (show Blk _ _ _ _ from (hF _ (by omega)).trans HB.out)
    replace HV := Lib.hid hA
    clear hA hF hB
    go_wp2
    have hrun := run_blk_load (P := Try.prog) 50 w.heap.size _ HV.out Try.underlying50 rfl Z0.out
    exact bodyPost_ret (results_cell_tmp 4 50 5 w.heap.size _ Try.results51 rfl hrun) rfl ⟨rfl, K.out⟩
  have hX : H = scells (40 + u2 T 4) (T.getD 6 0) (srcA T) (dstA T) := by rw [← HHE.out]; unfold hd6; rw [if_pos (HFR.out.trans hfr)]
  have HDD := HHD.out (HFR.out.trans hfr)
  have hsS : (srcA T).size = 17 := HDD.sA
  have hsD : (dstA T).size = 17 := HDD.sB
  have hhigh : 40 + u2 T 4 ≤ T.length := HDD.high
  have haA := fA_all true T
  have haB := fB_all true T
  rw [HL.out] at hhigh
  have hpv := HPV.out
  rw [if_pos hfr] at hpv
  replace hpv : VW = vcells true at0 (at0 + 40) (at0 + (40 + u2 T 4)) (kcells (T.getD 6 0) (srcA T) (dstA T) 0 0) 0 := hpv
  replace haA : (srcA T).all (·.oneCell') = true := haA
  replace haB : (dstA T).all (·.oneCell') = true := haB
  have hl40 : 40 ≤ 40 + u2 T 4 := Nat.le_add_right _ _
  clear HHD HHE HFR HL HPV HDD CH
  subst hfr
  generalize T.getD 6 0 = p at *
  generalize 40 + u2 T 4 = l at *
  generalize srcA T = S at *
  generalize dstA T = D at *
  obtain ⟨s, hs⟩ : ∃ s, s = 40 := ⟨_, rfl⟩
  have H0 := Lib.hid (show H[0]? = some (.int .i64 (l : Int)) by rw [hX]; exact (scells_get l p S D).1)
  have H1 := Lib.hid (show H[1]? = some (.int .u8 (p : Int)) by rw [hX]; exact (scells_get l p S D).2)
  have PS := Lib.hid (show (H.toList.drop 2).take S.toList.length = S.toList by rw [hX]; exact scells_src l p S D)
  have PD := Lib.hid (show (H.toList.drop 19).take D.toList.length = D.toList by rw [hX]; exact scells_dst l p S D hsS)
  have wa1 := Lib.hid (show IntKind.i64.wrap ((at0 : Int) + 40) = ((at0 + 40 : Nat) : Int) by rw [IntKind.wrap_i64]; omega)
  have wa2 := Lib.hid (show IntKind.i64.wrap ((at0 : Int) + (l : Int)) = ((at0 + l : Nat) : Int) by rw [IntKind.wrap_i64]; omega)
  have BV := Lib.hid (built_view6 at0 (at0 + 40) (at0 + l) p S D hsS hsD)
  generalize at0 + 40 = sg at *
  generalize at0 + l = en at *
  have BK := Lib.hid (built_key3 p S D hsS hsD)
  have IS := Lib.hid (i24.trans (congrArg some (show (17 : Nat) = S.toList.length by simp [hsS])))
  have ID := Lib.hid (i24.trans (congrArg some (show (17 : Nat) = D.toList.length by simp [hsD])))
  have yk := kcells_size p S D 0 0 hsS hsD
  have ak := kcells_all p S D 0 0 haA haB
  generalize kcells p S D 0 0 = kc at *
  rw [← hpv] at BV
  have YKC : Hid (kc.size = Array.size (ZcK : Array Value)) := yk
  have ZKC := Lib.hid (i43.trans (congrArg some yk.symm))
  have AKC := Lib.hid ak
  have wb1 := wa1.out
  have wb2 := wa2.out
  clear yk ak hpv hX hsS hsD haA haB wa1 wa2 hP2 RT
  have L13 := (HB.out.cell 1).trans H1.out
  have L14 : (loadVar 27 ⟨V2.heap.size, 2, none⟩).run Try.prog V3 = .ok (.agg S) V3 := by have h := run_part_load (P := Try.prog) 27 2 S.toList _ HB.out PS.out Try.underlying27 rfl IS.out; rwa [Array.toArray_toList] at h
  replace L14 := Lib.hid L14
  have L15 : (loadVar 27 ⟨V2.heap.size, 19, none⟩).run Try.prog V3 = .ok (.agg D) V3 := by have h := run_part_load (P := Try.prog) 27 19 D.toList _ HB.out PD.out Try.underlying27 rfl ID.out; rwa [Array.toArray_toList] at h
  replace L15 := Lib.hid L15
  go_wp2_with (first | ((with_reducible refine wpList_load_want (op := ⟨some 22, .load 27 (.tmp 21), _, _, _, _⟩) ?wg14 27 (.tmp 21) ?wo14 ⟨V2.heap.size, 2, none⟩ ?wx14 (.agg S) L14.out ?_); (case wg14 => rfl); (case wo14 => rfl); (case wx14 => rfl)) | ((with_reducible refine wpList_load_want (op := ⟨some 24, .load 27 (.tmp 23), _, _, _, _⟩) ?wg15 27 (.tmp 23) ?wo15 ⟨V2.heap.size, 19, none⟩ ?wx15 (.agg D) L15.out ?_); (case wg15 => rfl); (case wo15 => rfl); (case wx15 => rfl)) | ((with_reducible refine wpList_built2 (op := ⟨some 25, .build 30 #[(0, Operand.tmp 20), (1, Operand.tmp 22), (2, Operand.tmp 24)], _, _, _, _⟩) ?wg25 30 #[(0, Operand.tmp 20), (1, Operand.tmp 22), (2, Operand.tmp 24)] ?wo25 #[(0, .int .u8 (p : Int)), (1, .agg S), (2, .agg D)] ?wv25 kc ?wf25 ?_); (case wg25 => rfl); (case wo25 => rfl); (case wv25 => kernel_rfl); (case wf25 => exact BK.out)) | ((with_reducible refine wpList_blk_store (op := ⟨none, .store 30 (.tmp 7) (.tmp 25), _, _, _, _⟩) ?sg16 30 (.tmp 7) (.tmp 25) ?so16 (V3.heap.size) kc ?sx16 ?sy16 (Blk.new V3 30 ZcK) YKC.out ZKC.out AKC.out ?_); (case sg16 => rfl); (case so16 => rfl); (case sx16 => rfl); (case sy16 => rfl)))
  clear L13 L14 L15
  have qHVNK : w.heap.size < V3.heap.size := HV.out.lt
  have qHBNK : V2.heap.size < V3.heap.size := HB.out.lt
  intro V4 hA hF hB
  have hy := ((Below.refl V3.heap.size V3).alloc (Nat.le_refl _) (.cells ZcK 30)).trans (hB _ (Nat.le_refl _))
  replace K := Lib.hid (K.out.trans (hy.mono K.out.size))
  replace HV := Lib.hid (HV.out.below hy HV.out.lt)
  replace HB := Lib.hid (HB.out.below hy HB.out.lt)
  have NK := Lib.hid hA
  clear hA hF hB hy
  have L17 := (HB.out.cell 0).trans H0.out
  have L18 : (loadVar 30 ⟨V3.heap.size, 0, none⟩).run Try.prog V4 = .ok (.agg kc) V4 := run_blk_load (P := Try.prog) 30 (V3.heap.size) _ NK.out Try.underlying30 rfl ZKC.out
  replace L18 := Lib.hid L18
  go_wp2_with (first | ((with_reducible refine wpList_load_want (op := ⟨some 33, .load 30 (.tmp 7), _, _, _, _⟩) ?wg18 30 (.tmp 7) ?wo18 ⟨V3.heap.size, 0, none⟩ ?wx18 (.agg kc) L18.out ?_); (case wg18 => rfl); (case wo18 => rfl); (case wx18 => rfl)) | ((with_reducible refine wpList_built2 (op := ⟨some 34, .build 50 #[(0, Operand.const (Value.bool true)), (1, Operand.tmp 26), (2, Operand.tmp 28), (3, Operand.tmp 32), (4, Operand.tmp 33)], _, _, _, _⟩) ?wg34 50 #[(0, Operand.const (Value.bool true)), (1, Operand.tmp 26), (2, Operand.tmp 28), (3, Operand.tmp 32), (4, Operand.tmp 33)] ?wo34 #[(0, .bool true), (1, .int .i64 (at0 : Int)), (2, .int .i64 (sg : Int)), (3, .int .i64 (en : Int)), (4, .agg kc)] ?wv34 VW ?wf34 ?_); (case wg34 => rfl); (case wo34 => rfl); (case wv34 => kernel_rfl); (case wf34 => exact BV.out)) | ((with_reducible refine wpList_blk_store (op := ⟨none, .store 50 (.tmp 4) (.tmp 34), _, _, _, _⟩) ?sg19 50 (.tmp 4) (.tmp 34) ?so19 (w.heap.size) VW ?sx19 ?sy19 HV.out YVW.out QVW.out AVW.out ?_); (case sg19 => rfl); (case so19 => rfl); (case sx19 => rfl); (case sy19 => rfl)))
  clear L17 L18
  intro V5 hA hF hB
  replace K := Lib.hid (K.out.trans (hB _ (by omega)))
  replace HB := Lib.hid (show Blk _ _ _ _ from (hF _ (by omega)).trans HB.out)
  replace NK := Lib.hid (show Blk _ _ _ _ from (hF _ (by omega)).trans NK.out)
  replace HV := Lib.hid hA
  clear hA hF hB
  go_wp2
  have hrun := run_blk_load (P := Try.prog) 50 w.heap.size _ HV.out Try.underlying50 rfl QVW.out
  exact bodyPost_ret (results_cell_tmp 4 50 5 w.heap.size _ Try.results51 rfl hrun) rfl ⟨rfl, K.out⟩
set_option maxRecDepth 100000 in
set_option maxHeartbeats 1000000 in
theorem packet_any (v : Value) (zs : List Nat) (at0 : Nat) (six : Bool) (w : World) (hr : Rd w v (nus .u8 zs)) (hb : ∀ c ∈ zs, c < 256) (h1 : 0 < at0) (h2 : at0 ≤ zs.length) :
    Calls Try.prog 39 #[v, .int .i64 (at0 : Int), .int .u16 ((if six then 34525 else 2048 : Nat) : Int)] w fun e w' => e = .returned (.tuple #[.agg (pv six at0 (zs.drop at0)), .int .i64 (fhr six (zs.drop at0) : Nat)]) ∧ Below w.heap.size w w' := by
  have C4 := Lib.hid (fun W (h : Rd W v (nus .u8 zs)) => four_any v zs at0 W h hb h1 h2)
  have C6 := Lib.hid (fun W (h : Rd W v (nus .u8 zs)) => six_any v zs at0 W h hb h1 h2)
  have YVW : Hid ((pv six at0 (zs.drop at0)).size = Array.size (ZcV : Array Value)) := pv_size _ _ _
  have QVW := Lib.hid (i72.trans (congrArg some (pv_size six at0 (zs.drop at0)).symm))
  have AVW := Lib.hid (pv_all six at0 (zs.drop at0))
  have K := Lib.hid (Below.refl w.heap.size w)
  have HR := Lib.hid hr
  obtain ⟨a, cap, rfl, -, -⟩ := rd_shape hr
  clear hr hb
  have EF : Hid (fhr six (zs.drop at0) = if six then f6 (zs.drop at0) else ff (zs.drop at0)) := rfl
  cases six with
  | true =>
    rw [show fhr true (zs.drop at0) = f6 (zs.drop at0) from rfl]
    generalize pv true at0 (zs.drop at0) = VW at *
    generalize f6 (zs.drop at0) = r at *
    clear EF
    generalize zs.length = n at *
    go_enter Try.func39, Try.ntmps39
    have hal := (Below.refl w.heap.size w).alloc (Nat.le_refl _) (.cells ZcV 50)
    replace K := Lib.hid (K.out.trans (hal.mono K.out.size))
    have HV := Lib.hid (Blk.new w 50 ZcV)
    clear hal
    go_wp2_with fail
    have hzV1 : Hid ((w.alloc (.cells ZcV 50)).heap.size = w.heap.size + 1) := by show _ = _; simp only [World.size_alloc]
    generalize (w.alloc (.cells ZcV 50)) = V1 at *
    refine (C6.out _ (HR.out.below K.out)).mono ?_
    rintro e V2 ⟨rfl, hy⟩
    replace K := Lib.hid (K.out.trans (hy.mono K.out.size))
    replace HV := Lib.hid (HV.out.below hy HV.out.lt)
    clear hy
    go_wp2_with (((with_reducible refine wpList_blk_store (op := ⟨none, .store 50 (.tmp 6) (.tmp 13), _, _, _, _⟩) ?sg20 50 (.tmp 6) (.tmp 13) ?so20 (w.heap.size) VW ?sx20 ?sy20 HV.out YVW.out QVW.out AVW.out ?_); (case sg20 => rfl); (case so20 => rfl); (case sx20 => rfl); (case sy20 => rfl)))
    intro V3 hA hF hB
    replace K := Lib.hid (K.out.trans (hB _ (by omega)))
    replace HV := Lib.hid hA
    clear hA hF hB
    go_wp2
    have hrun := run_blk_load (P := Try.prog) 50 w.heap.size _ HV.out Try.underlying50 rfl QVW.out
    exact bodyPost_ret (results_cell_tmp 6 50 7 w.heap.size _ Try.results39 rfl hrun) rfl ⟨rfl, K.out⟩
  | false =>
    rw [show fhr false (zs.drop at0) = ff (zs.drop at0) from rfl]
    generalize pv false at0 (zs.drop at0) = VW at *
    generalize ff (zs.drop at0) = r at *
    clear EF
    generalize zs.length = n at *
    go_enter Try.func39, Try.ntmps39
    have hal := (Below.refl w.heap.size w).alloc (Nat.le_refl _) (.cells ZcV 50)
    replace K := Lib.hid (K.out.trans (hal.mono K.out.size))
    have HV := Lib.hid (Blk.new w 50 ZcV)
    clear hal
    go_wp2_with fail
    have hzV1 : Hid ((w.alloc (.cells ZcV 50)).heap.size = w.heap.size + 1) := by show _ = _; simp only [World.size_alloc]
    generalize (w.alloc (.cells ZcV 50)) = V1 at *
    refine (C4.out _ (HR.out.below K.out)).mono ?_
    rintro e V2 ⟨rfl, hy⟩
    replace K := Lib.hid (K.out.trans (hy.mono K.out.size))
    replace HV := Lib.hid (HV.out.below hy HV.out.lt)
    clear hy
    go_wp2_with (((with_reducible refine wpList_blk_store (op := ⟨none, .store 50 (.tmp 6) (.tmp 18), _, _, _, _⟩) ?sg21 50 (.tmp 6) (.tmp 18) ?so21 (w.heap.size) VW ?sx21 ?sy21 HV.out YVW.out QVW.out AVW.out ?_); (case sg21 => rfl); (case so21 => rfl); (case sx21 => rfl); (case sy21 => rfl)))
    intro V3 hA hF hB
    replace K := Lib.hid (K.out.trans (hB _ (by omega)))
    replace HV := Lib.hid hA
    clear hA hF hB
    go_wp2
    have hrun := run_blk_load (P := Try.prog) 50 w.heap.size _ HV.out Try.underlying50 rfl QVW.out
    exact bodyPost_ret (results_cell_tmp 6 50 7 w.heap.size _ Try.results39 rfl hrun) rfl ⟨rfl, K.out⟩
end Go.Proofs.Ytnpibdjfafpegaa
