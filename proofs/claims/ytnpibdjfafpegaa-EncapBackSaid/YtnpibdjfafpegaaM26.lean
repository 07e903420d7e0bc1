/- Texts that the walks of this seat lean on, put together. -/
import Derived.BigFrame
import Derived.Test.YtnpibdjfafpegaaTk
import Derived.Test.YtnpibdjfafpegaaM15
import Derived.Test.YtnpibdjfafpegaaM22
import Derived.Test.YtnpibdjfafpegaaM23
namespace Go.Proofs.Ytnpibdjfafpegaa
open Go.RowKit
set_option maxRecDepth 100000 in
set_option maxHeartbeats 8000000 in
theorem rframe_six (v : Value) (zs : List Nat) (at0 : Nat) (w : World) (hr : Rd w v (nus .u8 zs)) (hb : ∀ c ∈ zs, c < 256) (hz : zs.length ≤ 3000) (hnet : net zs = (at0, 34525, 0)) :
    Calls Try.prog 19 #[v] w fun e w' => e = .returned (.tuple #[.agg (vw zs), .int .i64 (rr zs : Nat)]) ∧ Below w.heap.size w w' := by
  obtain ⟨hat, hatl, -⟩ := net_ok zs (by rw [hnet])
  have hsix : sixF zs = true := by unfold sixF; rw [hnet]; rfl
  obtain ⟨T, hT⟩ : ∃ T, T = pkt zs := ⟨_, rfl⟩
  have hT2 : T = zs.drop at0 := by rw [hT]; unfold pkt; rw [hnet]
  obtain ⟨PT, hPT⟩ : ∃ P, P = sgm zs := ⟨_, rfl⟩
  have hPT2 : PT = (zs.drop (at0 + fS true T)).take (fL true T - fS true T) := by rw [hPT]; unfold sgm; rw [hsix, ← hT, hnet]
  have hrr : rr zs = if fhr true T ≠ 0 then fhr true T else fs (fP true T) PT := by unfold rr; rw [hnet, hsix, ← hT, ← hPT]; simp
  have hvw : vw zs = if rr zs = 0 then vcells true at0 (at0 + fS true T) (at0 + fL true T) (kcells (fP true T) (fA true T) (fB true T) (u2 PT 0) (u2 PT 2)) (fl (fP true T) PT) else v0 := by
    unfold vw keyF; rw [hsix, ← hT, ← hPT, hnet]
  have hbT : ∀ c ∈ T, c < 256 := by rw [hT2]; exact fun c hc => hb c (List.mem_of_mem_drop hc)
  have hbP : ∀ c ∈ PT, c < 256 := by rw [hPT2]; exact fun c hc => hb c (List.mem_of_mem_drop (List.mem_of_mem_take hc))
  have lT : T.length = zs.length - at0 := by rw [hT2, List.length_drop]
  rw [hnet] at hat hatl
  have hat : at0 = 14 ∨ at0 = 18 := hat
  have hatl : at0 ≤ zs.length := hatl
  obtain ⟨a, cap, rfl, hlc, hlm⟩ := rd_shape hr
  obtain ⟨b, off, rfl, -⟩ := hr.cells (by omega)
  have CN := Lib.hid (fun W (h : Rd W (.slice (some ⟨b, off, none⟩) zs.length cap) (nus .u8 zs)) => rnet_any _ zs W h hb)
  rw [hnet] at CN
  have CH := Lib.hid (show ∀ W z, Rd W z (nus .u8 T) → Calls Try.prog 37 #[z] W fun e w' => e = .returned (.tuple #[.agg (fhd true T), .int .i64 (fhr true T : Nat)]) ∧ Below W.heap.size W w' from fun W z h => rsix_any z T W h hbT)
  have hRT := subP hr at0 (zs.length - at0) (by omega)
  rw [List.take_of_length_le (by rw [List.length_drop]; omega), ← hT2] at hRT
  obtain ⟨P, hP⟩ : ∃ P, P = (if cap = at0 then some (⟨b, off, none⟩ : Addr) else some ⟨b, off + at0, none⟩) := ⟨_, rfl⟩
  rw [← hP] at hRT
  have RT := Lib.hid hRT
  have HR := Lib.hid hr
  have K := Lib.hid (Below.refl w.heap.size w)
  have YH : Hid ((fhd true T).size = Array.size (Zc37 : Array Value)) := fhd_size _ _
  have ZH := Lib.hid (i37.trans (congrArg some (fhd_size true T).symm))
  have AH := Lib.hid (fhd_all true T)
  have Y0 : Hid (v0.size = Array.size (ZcV : Array Value)) := v0_size
  have Z0 := Lib.hid (i72.trans (congrArg some v0_size.symm))
  have A0 := Lib.hid v0_all
  have HHD := Lib.hid (fhd_yes true T)
  have HRR := Lib.hid hrr
  have HVW := Lib.hid hvw
  have hfl := fhr_lt true T
  have HPT2 := Lib.hid hPT2
  have HRS := Lib.hid hr
  have HL := Lib.hid lT
  have HNN := Lib.hid (show zs.length = zs.length from rfl)
  clear hr hRT hT hT2 hPT hPT2 hrr hvw hb hbT hsix hnet lT
  have hP2 := hP.symm
  clear hP
  generalize hFH : fhd true T = H at *
  have HFH := Lib.hid hFH
  clear hFH
  generalize hFR : fhr true T = fr at *
  have HFR := Lib.hid hFR
  clear hFR
  generalize vw zs = VW at *
  generalize rr zs = RRR at *
  have HN := Lib.hid (show ∃ n, n = zs.length from ⟨_, rfl⟩)
  obtain ⟨n, hn⟩ := HN.out
  have HNL := Lib.hid hn
  rw [← hn] at CN HR RT HRS HL hlc hatl hz
  have hgoal : (Calls Try.prog 19 #[.slice (some ⟨b, off, none⟩) n cap] w fun e w' => e = .returned (.tuple #[.agg VW, .int .i64 (RRR : Nat)]) ∧ Below w.heap.size w w') → (Calls Try.prog 19 #[.slice (some ⟨b, off, none⟩) zs.length cap] w fun e w' => e = .returned (.tuple #[.agg VW, .int .i64 (RRR : Nat)]) ∧ Below w.heap.size w w') := by rw [← hn]; exact id
  refine hgoal ?_
  clear hgoal hn HN HNN
  unfold maxLen at hlm
  have e65 : decide ((65535 : Int) < (n : Int)) = false := decide_eq_false (by omega)
  go_enter Try.func19, Try.ntmps19
  have hal := (Below.refl w.heap.size w).alloc (Nat.le_refl _) (.cells ZcV 50)
  replace K := Lib.hid (K.out.trans (hal.mono K.out.size))
  have HV := Lib.hid (Blk.new w 50 ZcV)
  clear hal
  go_wp2_with fail
  have hzV1 : Hid ((w.alloc (.cells ZcV 50)).heap.size = w.heap.size + 1) := by show _ = _; simp only [World.size_alloc]
  generalize (w.alloc (.cells ZcV 50)) = V1 at *
  refine (CN.out _ (HR.out.below K.out)).mono ?_
  rintro e V2 ⟨rfl, hy⟩
  replace K := Lib.hid (K.out.trans (hy.mono K.out.size))
  replace HV := Lib.hid (HV.out.below hy HV.out.lt)
  clear hy
  go_wp2_with fail
  have qHV : w.heap.size < V2.heap.size := HV.out.lt
  have hal := (Below.refl V2.heap.size V2).alloc (Nat.le_refl _) (.cells Zc37 72)
  replace K := Lib.hid (K.out.trans (hal.mono K.out.size))
  replace HV := Lib.hid (HV.out.below hal HV.out.lt)
  have HB := Lib.hid (Blk.new V2 72 Zc37)
  clear hal
  go_wp2_with fail
  have hzV3 : Hid ((V2.alloc (.cells Zc37 72)).heap.size = V2.heap.size + 1) := by show _ = _; simp only [World.size_alloc]
  generalize (V2.alloc (.cells Zc37 72)) = V3 at *
  refine (CH.out _ _ (RT.out.below K.out)).mono ?_
  rintro e V4 ⟨rfl, hy⟩
  replace K := Lib.hid (K.out.trans (hy.mono K.out.size))
  replace HV := Lib.hid (HV.out.below hy HV.out.lt)
  replace HB := Lib.hid (HB.out.below hy HB.out.lt)
  clear hy
  go_wp2_with (((with_reducible refine wpList_blk_store (op := ⟨none, .store 72 (.tmp 7) (.tmp 38), _, _, _, _⟩) ?sg2 72 (.tmp 7) (.tmp 38) ?so2 (V2.heap.size) H ?sx2 ?sy2 HB.out YH.out ZH.out AH.out ?_); (case sg2 => rfl); (case so2 => rfl); (case sx2 => rfl); (case sy2 => rfl)))
  intro V5 hA hF hB
  replace K := Lib.hid (K.out.trans (hB _ (by omega)))
  replace HV := Lib.hid (show Blk _ _ _ _ from (hF _ (by omega)).trans HV.out)
  replace HB := Lib.hid hA
  clear hA hF hB
  by_cases hfr : fr = 0
  case neg =>
    have hR : fr = RRR := by rw [HRR.out, if_pos hfr]
    have hV : v0 = VW := by rw [HVW.out, ← hR, if_neg hfr]
    subst hR hV
    have g0 : ((fr : Int) != 0) = true := by simp; omega
    clear hfr
    go_wp2_with (((with_reducible refine wpList_blk_store (op := ⟨none, .store 50 (.tmp 2) (.tmp 42), _, _, _, _⟩) ?sg3 50 (.tmp 2) (.tmp 42) ?so3 (w.heap.size) v0 ?sx3 ?sy3 HV.out Y0.out Z0.out A0.out ?_); (case sg3 => rfl); (case so3 => rfl); (case sx3 => rfl); (case sy3 => rfl)))
    intro V6 hA hF hB
    replace K := Lib.hid (K.out.trans (hB _ (by omega)))
    replace HB := Lib.hid (show Blk _ _ _ _ from (hF _ (by omega)).trans HB.out)
    replace HV := Lib.hid hA
    clear hA hF hB
    go_wp2
    have hrun := run_blk_load (P := Try.prog) 50 w.heap.size _ HV.out Try.underlying50 rfl Z0.out
    exact bodyPost_ret (results_cell_tmp 2 50 3 w.heap.size _ Try.results19 rfl hrun) rfl ⟨rfl, K.out⟩
  have HDD := HHD.out hfr
  have hR0 : RRR = fs (fP true T) PT := by rw [HRR.out, if_neg (by omega)]
  clear HRR HHD HR RT CH CN HFR
  subst hfr
  have e1 : H = hcells (fS true T) (fL true T) (fP true T) (fA true T) (fB true T) := HFH.out.symm.trans HDD.hd
  have hsS := HDD.sA
  have hsD := HDD.sB
  have h20 := HDD.low
  have hmid := HDD.mid
  have hhigh := HDD.high
  have haA := fA_all true T
  have haB := fB_all true T
  have hpr := HDD.pr
  have hsl : fS true T ≤ 60 := by first | exact hs_lt T | (show 40 ≤ 60; omega)
  rw [HL.out] at hhigh
  clear HDD HFH HL
  generalize fS true T = s at *
  generalize fL true T = l at *
  generalize fP true T = p at *
  generalize fA true T = S at *
  generalize fB true T = D at *
  have H0 := Lib.hid (show H[0]? = some (.int .i64 (s : Int)) by rw [e1]; exact (hcells_get s l p S D).1)
  have H1 := Lib.hid (show H[1]? = some (.int .i64 (l : Int)) by rw [e1]; exact (hcells_get s l p S D).2.1)
  have H2 := Lib.hid (show H[2]? = some (.int .u8 (p : Int)) by rw [e1]; exact (hcells_get s l p S D).2.2)
  have PS := Lib.hid (show (H.toList.drop 3).take S.toList.length = S.toList by rw [e1]; exact rcells_src s l p S D)
  have PD := Lib.hid (show (H.toList.drop 20).take D.toList.length = D.toList by rw [e1]; exact rcells_dst s l p S D hsS)
  have IS := Lib.hid (i24.trans (congrArg some (show (17 : Nat) = S.toList.length by simp [hsS])))
  have ID := Lib.hid (i24.trans (congrArg some (show (17 : Nat) = D.toList.length by simp [hsD])))
  obtain ⟨sg, hsg⟩ : ∃ x, x = at0 + s := ⟨_, rfl⟩
  obtain ⟨en, hen⟩ : ∃ x, x = at0 + l := ⟨_, rfl⟩
  have hpt := HPT2.out
  rw [← hsg, show l - s = en - sg by omega] at hpt
  have hRP := subP HRS.out sg (en - sg) (by omega)
  rw [← hpt] at hRP
  rw [← hsg, ← hen] at HVW
  obtain ⟨P2, hP3⟩ : ∃ P, P = (if cap = sg then some (⟨b, off, none⟩ : Addr) else some ⟨b, off + sg, none⟩) := ⟨_, rfl⟩
  rw [← hP3] at hRP
  have RP := Lib.hid hRP
  have HP2 := Lib.hid hP3
  have hbk : ∀ (z : Value) (W : World), Rd W z (nus .u8 PT) → Calls Try.prog 38 #[.int .u8 (p : Int), z] W fun e w' => e = .returned (.tuple #[.agg (rs7 p PT), .int .i64 (fs p PT : Nat)]) ∧ Below W.heap.size W w' := fun z W h => rread_any p z PT W h hbP
  have CR := Lib.hid hbk
  have HS7 := Lib.hid (heads p PT hbP)
  have HR7 := Lib.hid (show rs7 p PT = if fs p PT = 0 then #[.int .i64 (u2 PT 0 : Nat), .int .i64 (u2 PT 2 : Nat), .int .u8 (fl p PT : Nat)] else #[.int .i64 0, .int .i64 0, .int .u8 0] from rfl)
  have hu0 := u2_lt PT 0 hbP
  have hu2 := u2_lt PT 2 hbP
  have YR : Hid ((rs7 p PT).size = Array.size (#[Value.int .i64 0, .int .i64 0, .int .u8 0] : Array Value)) := rs7_size p PT
  have ZR := Lib.hid (i34.trans (congrArg some (rs7_size p PT).symm))
  have AR := Lib.hid (rs7_all p PT)
  have wa1 := Lib.hid (show IntKind.i64.wrap ((at0 : Int) + (s : Int)) = (sg : Int) by rw [IntKind.wrap_i64]; omega)
  have wa2 := Lib.hid (show IntKind.i64.wrap ((at0 : Int) + (l : Int)) = (en : Int) by rw [IntKind.wrap_i64]; omega)
  have BK := Lib.hid (fun sp dp => built_key p sp dp S D hsS hsD)
  have BV := Lib.hid (fun s e f sp dp => built_view true at0 s e f p sp dp S D hsS hsD)
  have YK := Lib.hid (fun sp dp => kcells_size p S D sp dp hsS hsD)
  have AK := Lib.hid (fun sp dp => kcells_all p S D sp dp haA haB)
  have hse : sg ≤ en := by omega
  have hen2 : en ≤ n := by omega
  have HSG := Lib.hid hsg
  have HEN := Lib.hid hen
  clear hRP hP3 hbk hbP HRS HPT2 e1 hsS hsD haA haB hpt hsg hen
  generalize rs7 p PT = RS at *
  generalize fs p PT = r2 at *
  go_upto_region 12 with fail
  have hlow : V5.heap.size ≤ V5.heap.size := Nat.le_refl _
  have qK := K.out.size
  have qV := HV.out.lt
  have qB := HB.out.lt
  go_cut [8, 6] (fun v r wx => ∃ g, v = .pointer (some ⟨g, 0, none⟩) ∧ r = .int .i64 (r2 : Int) ∧ Blk wx g 76 RS ∧ Blk wx w.heap.size 50 ZcV ∧ Blk wx V2.heap.size 72 H ∧ V5.heap.size ≤ g ∧ Below w.heap.size w wx)
  case first =>
    refine wp_region_held (S := (fun w' : World => Below (V5.heap.size) V5 w')) (by kernel_rfl) ?_
    change wpAnyH _ _ _ _ _ _ _ _ V5.drew
    have hy : Below V5.heap.size V5 V5.drew := (Below.refl _ _).drew
    have hE0 : Below (V5.heap.size) V5 V5.drew := (Below.refl _ _).drew
    clear hy
    generalize V5.drew = Y12x0 at hE0  ⊢
    have E0 := Lib.hid hE0
    clear hE0
    refine tkA 0 (?_) ?_ E0.out ?_
    rotate_left
    · (intro w1 hS; go_simp; try with_reducible rfl)
    simp only [Act.put, tS1, tS2, tS3]
    refine tkA 1 (?_) ?_ E0.out ?_
    rotate_left
    · (intro w1 hS; have hW := hS; have q := ((HB.out.below hW HB.out.lt).cell 2).trans H2.out; clear hW hS; go_simp; try with_reducible rfl)
    simp only [Act.put, tS1, tS2, tS3]
    refine tkA 2 (?_) ?_ E0.out ?_
    rotate_left
    · (intro w1 hS; go_simp; try with_reducible rfl)
    simp only [Act.put, tS1, tS2, tS3]
    refine tkA 3 (?_) ?_ E0.out ?_
    rotate_left
    · (intro w1 hS; go_simp; try with_reducible rfl)
    simp only [Act.put, tS1, tS2, tS3]
    refine tkA 4 (?_) ?_ E0.out ?_
    rotate_left
    · (intro w1 hS; go_simp; try with_reducible rfl)
    simp only [Act.put, tS1, tS2, tS3]
    refine tkA 5 (?_) ?_ E0.out ?_
    rotate_left
    · (intro w1 hS; have hW := hS; have q := ((HB.out.below hW HB.out.lt).cell 0).trans H0.out; clear hW hS; go_simp; try with_reducible rfl)
    simp only [Act.put, tS1, tS2, tS3]
    refine tkA 6 (?_) ?_ E0.out ?_
    rotate_left
    · (intro w1 hS; have hW := hS; have q := wa1.out; clear hW hS; go_simp; try with_reducible rfl)
    simp only [Act.put, tS1, tS2, tS3]
    refine tkA 7 (?_) ?_ E0.out ?_
    rotate_left
    · (intro w1 hS; go_simp; try with_reducible rfl)
    simp only [Act.put, tS1, tS2, tS3]
    refine tkA 8 (?_) ?_ E0.out ?_
    rotate_left
    · (intro w1 hS; go_simp; try with_reducible rfl)
    simp only [Act.put, tS1, tS2, tS3]
    refine tkA 9 (?_) ?_ E0.out ?_
    rotate_left
    · (intro w1 hS; have hW := hS; have q := ((HB.out.below hW HB.out.lt).cell 1).trans H1.out; clear hW hS; go_simp; try with_reducible rfl)
    simp only [Act.put, tS1, tS2, tS3]
    refine tkA 10 (?_) ?_ E0.out ?_
    rotate_left
    · (intro w1 hS; have hW := hS; have q := wa2.out; clear hW hS; go_simp; try with_reducible rfl)
    simp only [Act.put, tS1, tS2, tS3]
    refine tkA 11 (?_) ?_ E0.out ?_
    rotate_left
    · (intro w1 hS; have hW := hS; have q : (sg : Int) ≤ (en : Int) := (by omega); have q3 : (en : Int) ≤ (cap : Int) := (by omega); have q2 := HP2.out.symm; clear hW hS; go_simp; try with_reducible rfl)
    simp only [Act.put, tS1, tS2, tS3]
    clear HP2 hP2
    refine wpAnyH_ready (rs := [12, 16]) (by kernel_rfl) (by simp) ?_
    refine AllReadyH.cons (o := { dst := some 57, op := Op.call { callee := Callee.value (Operand.func 38), args := #[Operand.tmp 46, Operand.tmp 56], argTypes := #[5, 22] }, type := 77, pos := "frame.go:379", after := #[{ on := 1, ground := Ground.data }, { on := 11, ground := Ground.data }], guard := none }) rfl (fun KK hK => ?_) ?_
    · go_simp
      refine (CR.out _ Y12x0 ((RP.out.below (K.out.trans (E0.out.mono qK))))).mono ?_
      rintro e Y12x1 ⟨rfl, hy⟩
      have E1 := Lib.hid (E0.out.trans (hy.mono (Nat.le_trans hlow E0.out.size)))
      have C1 := Lib.hid E1.out
      clear hy E0
      refine hK.out _ _ C1.out (fun _ => ?_)
      clear hK KK
      clear C1
      try simp only [Act.put, tS1, tS2, tS3]
      refine tkA 13 (?_) ?_ E1.out ?_
      rotate_left
      · (intro w1 hS; go_simp; try with_reducible rfl)
      simp only [Act.put, tS1, tS2, tS3]
      refine tkA 14 (?_) ?_ E1.out ?_
      rotate_left
      · (intro w1 hS; go_simp; try with_reducible rfl)
      simp only [Act.put, tS1, tS2, tS3]
      refine tkA 15 (?_) ?_ E1.out ?_
      rotate_left
      · (intro w1 hS; go_simp; try with_reducible rfl)
      simp only [Act.put, tS1, tS2, tS3]
      refine tkO 16 (fun KK hK => ?_)
      go_simp
      have NR := Blk.new Y12x1 76 #[Value.int .i64 0, .int .i64 0, .int .u8 0]
      have hy := (Below.refl Y12x1.heap.size Y12x1).alloc (Nat.le_refl _) (.cells #[Value.int .i64 0, .int .i64 0, .int .u8 0] 76)
      have gNR := Nat.le_trans (Nat.le_of_eq rfl) E1.out.size
      generalize Y12x1.alloc (.cells #[Value.int .i64 0, .int .i64 0, .int .u8 0] 76) = Y12x2 at NR hy ⊢
      replace NR := Lib.hid NR
      have E2 := Lib.hid (E1.out.trans (hy.mono (Nat.le_trans hlow E1.out.size)))
      have C2 := Lib.hid E2.out
      clear hy E1
      refine hK.out _ _ C2.out (fun _ => ?_)
      clear hK KK
      clear C2
      try simp only [Act.put, tS1, tS2, tS3]
      refine tkO 17 (fun KK hK => ?_)
      rw [if_pos (by rfl)]
      refine wp_blk_store 76 (.tmp 8) (.tmp 58) rfl RS rfl rfl NR.out YR.out ZR.out AR.out ?_
      intro Y12x3 hA hF hB
      have E3 := Lib.hid (E2.out.trans (hB _ gNR))
      replace NR := Lib.hid hA
      clear hA hF hB E2
      refine hK.out _ _ E3.out (fun _ => ?_)
      clear hK KK
      try simp only [Act.put]
      refine tkA 18 (?_) ?_ E3.out ?_
      rotate_left
      · (intro w1 hS; go_simp; try with_reducible rfl)
      simp only [Act.put, tS1, tS2, tS3]
      refine wpAnyH_done (by kernel_rfl) ?_ _
      go_wp2
      go_meet
      exact ⟨_, rfl, rfl, NR.out, HV.out.below E3.out qV, HB.out.below E3.out qB, gNR, K.out.trans (E3.out.mono qK)⟩
    refine AllReadyH.cons (o := { dst := some 8, op := Op.alloc 76, type := 0, pos := "frame.go:379", after := #[], guard := none }) rfl (fun KK hK => ?_) AllReadyH.nil
    go_simp
    have NR := Blk.new Y12x0 76 #[Value.int .i64 0, .int .i64 0, .int .u8 0]
    have hy := (Below.refl Y12x0.heap.size Y12x0).alloc (Nat.le_refl _) (.cells #[Value.int .i64 0, .int .i64 0, .int .u8 0] 76)
    have gNR := Nat.le_trans (Nat.le_of_eq rfl) E0.out.size
    generalize Y12x0.alloc (.cells #[Value.int .i64 0, .int .i64 0, .int .u8 0] 76) = Y12x1 at NR hy ⊢
    replace NR := Lib.hid NR
    have E1 := Lib.hid (E0.out.trans (hy.mono (Nat.le_trans hlow E0.out.size)))
    have C1 := Lib.hid E1.out
    clear hy E0
    refine hK.out _ _ C1.out (fun _ => ?_)
    clear hK KK
    clear C1
    try simp only [Act.put, tS1, tS2, tS3]
    refine tkO 12 (fun KK hK => ?_)
    go_simp
    refine (CR.out _ Y12x1 ((RP.out.below (K.out.trans (E1.out.mono qK))))).mono ?_
    rintro e Y12x2 ⟨rfl, hy⟩
    replace NR := Lib.hid (NR.out.below hy NR.out.lt)
    have E2 := Lib.hid (E1.out.trans (hy.mono (Nat.le_trans hlow E1.out.size)))
    have C2 := Lib.hid E2.out
    clear hy E1
    refine hK.out _ _ C2.out (fun _ => ?_)
    clear hK KK
    clear C2
    try simp only [Act.put, tS1, tS2, tS3]
    refine tkA 13 (?_) ?_ E2.out ?_
    rotate_left
    · (intro w1 hS; go_simp; try with_reducible rfl)
    simp only [Act.put, tS1, tS2, tS3]
    refine tkA 14 (?_) ?_ E2.out ?_
    rotate_left
    · (intro w1 hS; go_simp; try with_reducible rfl)
    simp only [Act.put, tS1, tS2, tS3]
    refine tkA 15 (?_) ?_ E2.out ?_
    rotate_left
    · (intro w1 hS; go_simp; try with_reducible rfl)
    simp only [Act.put, tS1, tS2, tS3]
    refine tkO 17 (fun KK hK => ?_)
    rw [if_pos (by rfl)]
    refine wp_blk_store 76 (.tmp 8) (.tmp 58) rfl RS rfl rfl NR.out YR.out ZR.out AR.out ?_
    intro Y12x3 hA hF hB
    have E3 := Lib.hid (E2.out.trans (hB _ gNR))
    replace NR := Lib.hid hA
    clear hA hF hB E2
    refine hK.out _ _ E3.out (fun _ => ?_)
    clear hK KK
    try simp only [Act.put]
    refine tkA 18 (?_) ?_ E3.out ?_
    rotate_left
    · (intro w1 hS; go_simp; try with_reducible rfl)
    simp only [Act.put, tS1, tS2, tS3]
    refine wpAnyH_done (by kernel_rfl) ?_ _
    go_wp2
    go_meet
    exact ⟨_, rfl, rfl, NR.out, HV.out.below E3.out qV, HB.out.below E3.out qB, gNR, K.out.trans (E3.out.mono qK)⟩
  case rest =>
    obtain ⟨g, rfl, rfl, hG, hV, hB, hgl, hK⟩ := hcut
    clear K HV HB hlow
    have G := Lib.hid hG
    have K := Lib.hid hK
    have HV := Lib.hid hV
    have HB := Lib.hid hB
    clear hG hV hB hK CR RP
    by_cases hr2 : r2 = 0
    case neg =>
      have hR : r2 = RRR := hR0.symm
      have hV0 : v0 = VW := by rw [HVW.out, ← hR, if_neg hr2]
      subst hR hV0
      have g0 : ((r2 : Int) != 0) = true := by simp; omega
      clear hr2
      go_wp2_with (((with_reducible refine wpList_blk_store (op := ⟨none, .store 50 (.tmp 2) (.tmp 62), _, _, _, _⟩) ?sg4 50 (.tmp 2) (.tmp 62) ?so4 (w.heap.size) v0 ?sx4 ?sy4 HV.out Y0.out Z0.out A0.out ?_); (case sg4 => rfl); (case so4 => rfl); (case sx4 => rfl); (case sy4 => rfl)))
      intro V91 hA hF hB
      replace K := Lib.hid (K.out.trans (hB _ (by omega)))
      replace HB := Lib.hid (show Blk _ _ _ _ from (hF _ (by omega)).trans HB.out)
      replace G := Lib.hid (show Blk _ _ _ _ from (hF _ (by omega)).trans G.out)
      replace HV := Lib.hid hA
      clear hA hF hB
      go_wp2
      have hrun := run_blk_load (P := Try.prog) 50 w.heap.size _ HV.out Try.underlying50 rfl Z0.out
      exact bodyPost_ret (results_cell_tmp 2 50 3 w.heap.size _ Try.results19 rfl hrun) rfl ⟨rfl, K.out⟩
    have hR : 0 = RRR := by rw [hR0, hr2]
    have hV0 := HVW.out
    rw [← hR, if_pos rfl] at hV0
    have hRS := HR7.out
    rw [if_pos hr2] at hRS
    clear HVW HR7 hR0 HS7 hpr
    subst hR hr2
    generalize u2 PT 0 = x0 at *
    generalize u2 PT 2 = x2 at *
    generalize fl p PT = xf at *
    have G0 := Lib.hid (show RS[0]? = some (.int .i64 (x0 : Int)) by rw [hRS]; rfl)
    have G1 := Lib.hid (show RS[1]? = some (.int .i64 (x2 : Int)) by rw [hRS]; rfl)
    have G2 := Lib.hid (show RS[2]? = some (.int .u8 (xf : Int)) by rw [hRS]; rfl)
    have BK1 := Lib.hid (BK.out x0 x2)
    have BV1 := Lib.hid (BV.out sg en xf x0 x2)
    have yk := YK.out x0 x2
    have ak := AK.out x0 x2
    have yv := vcells_size true at0 sg en (kcells p S D x0 x2) xf yk
    have av := vcells_all true at0 sg en (kcells p S D x0 x2) xf ak
    rw [← hV0] at yv av
    have BV2 := Lib.hid (BV1.out.trans (congrArg some hV0.symm))
    generalize kcells p S D x0 x2 = kc at *
    have YKC : Hid (kc.size = Array.size (ZcK : Array Value)) := yk
    have ZKC := Lib.hid (i43.trans (congrArg some yk.symm))
    have AKC := Lib.hid ak
    have YVW : Hid (VW.size = Array.size (ZcV : Array Value)) := yv
    have QVW := Lib.hid (i72.trans (congrArg some yv.symm))
    have AVW := Lib.hid av
    have w16a : IntKind.u16.wrap (x0 : Int) = (x0 : Int) := by rw [IntKind.wrap_u16]; omega
    have w16b : IntKind.u16.wrap (x2 : Int) = (x2 : Int) := by rw [IntKind.wrap_u16]; omega
    have wb1 := wa1.out
    have wb2 := wa2.out
    clear BK BV YK AK BV1 hV0 hRS yk ak yv av wa1 wa2
    have hgB : V2.heap.size < g := Nat.lt_of_lt_of_le qB hgl
    have L5 := (HB.out.cell 2).trans H2.out
    have L6 : (loadVar 27 ⟨V2.heap.size, 3, none⟩).run Try.prog wc = .ok (.agg S) wc := by have h := run_part_load (P := Try.prog) 27 3 S.toList _ HB.out PS.out Try.underlying27 rfl IS.out; rwa [Array.toArray_toList] at h
    replace L6 := Lib.hid L6
    have L7 : (loadVar 27 ⟨V2.heap.size, 20, none⟩).run Try.prog wc = .ok (.agg D) wc := by have h := run_part_load (P := Try.prog) 27 20 D.toList _ HB.out PD.out Try.underlying27 rfl ID.out; rwa [Array.toArray_toList] at h
    replace L7 := Lib.hid L7
    have L8 := (G.out.cell 0).trans G0.out
    have L9 := (G.out.cell 1).trans G1.out
    go_wp2_with (first | ((with_reducible refine wpList_load_want (op := ⟨some 67, .load 27 (.tmp 66), _, _, _, _⟩) ?wg6 27 (.tmp 66) ?wo6 ⟨V2.heap.size, 3, none⟩ ?wx6 (.agg S) L6.out ?_); (case wg6 => rfl); (case wo6 => rfl); (case wx6 => rfl)) | ((with_reducible refine wpList_load_want (op := ⟨some 69, .load 27 (.tmp 68), _, _, _, _⟩) ?wg7 27 (.tmp 68) ?wo7 ⟨V2.heap.size, 20, none⟩ ?wx7 (.agg D) L7.out ?_); (case wg7 => rfl); (case wo7 => rfl); (case wx7 => rfl)) | ((with_reducible refine wpList_built2 (op := ⟨some 76, .build 30 #[(0, Operand.tmp 65), (1, Operand.tmp 67), (2, Operand.tmp 69), (3, Operand.tmp 72), (4, Operand.tmp 75)], _, _, _, _⟩) ?wg76 30 #[(0, Operand.tmp 65), (1, Operand.tmp 67), (2, Operand.tmp 69), (3, Operand.tmp 72), (4, Operand.tmp 75)] ?wo76 #[(0, .int .u8 (p : Int)), (1, .agg S), (2, .agg D), (3, .int .u16 (x0 : Int)), (4, .int .u16 (x2 : Int))] ?wv76 kc ?wf76 ?_); (case wg76 => rfl); (case wo76 => rfl); (case wv76 => kernel_rfl); (case wf76 => exact BK1.out)) | ((with_reducible refine wpList_blk_store (op := ⟨none, .store 30 (.tmp 9) (.tmp 76), _, _, _, _⟩) ?sg10 30 (.tmp 9) (.tmp 76) ?so10 (wc.heap.size) kc ?sx10 ?sy10 (Blk.new wc 30 ZcK) YKC.out ZKC.out AKC.out ?_); (case sg10 => rfl); (case so10 => rfl); (case sx10 => rfl); (case sy10 => rfl)))
    clear L5 L6 L7 L8 L9
    have qHVNK : w.heap.size < wc.heap.size := HV.out.lt
    have qHBNK : V2.heap.size < wc.heap.size := HB.out.lt
    have qGNK : g < wc.heap.size := G.out.lt
    intro V91 hA hF hB
    have hy := ((Below.refl wc.heap.size wc).alloc (Nat.le_refl _) (.cells ZcK 30)).trans (hB _ (Nat.le_refl _))
    replace K := Lib.hid (K.out.trans (hy.mono K.out.size))
    replace HV := Lib.hid (HV.out.below hy HV.out.lt)
    replace HB := Lib.hid (HB.out.below hy HB.out.lt)
    replace G := Lib.hid (G.out.below hy G.out.lt)
    have NK := Lib.hid hA
    clear hA hF hB hy
    have L11 := (HB.out.cell 0).trans H0.out
    have L12 := (HB.out.cell 1).trans H1.out
    have L13 : (loadVar 30 ⟨wc.heap.size, 0, none⟩).run Try.prog V91 = .ok (.agg kc) V91 := run_blk_load (P := Try.prog) 30 (wc.heap.size) _ NK.out Try.underlying30 rfl ZKC.out
    replace L13 := Lib.hid L13
    have L14 := (G.out.cell 2).trans G2.out
    go_wp2_with (first | ((with_reducible refine wpList_load_want (op := ⟨some 88, .load 30 (.tmp 9), _, _, _, _⟩) ?wg13 30 (.tmp 9) ?wo13 ⟨wc.heap.size, 0, none⟩ ?wx13 (.agg kc) L13.out ?_); (case wg13 => rfl); (case wo13 => rfl); (case wx13 => rfl)) | ((with_reducible refine wpList_built2 (op := ⟨some 91, .build 50 #[(0, Operand.tmp 78), (1, Operand.tmp 79), (2, Operand.tmp 83), (3, Operand.tmp 87), (4, Operand.tmp 88), (5, Operand.tmp 90)], _, _, _, _⟩) ?wg91 50 #[(0, Operand.tmp 78), (1, Operand.tmp 79), (2, Operand.tmp 83), (3, Operand.tmp 87), (4, Operand.tmp 88), (5, Operand.tmp 90)] ?wo91 #[(0, .bool true), (1, .int .i64 (at0 : Int)), (2, .int .i64 (sg : Int)), (3, .int .i64 (en : Int)), (4, .agg kc), (5, .int .u8 (xf : Int))] ?wv91 VW ?wf91 ?_); (case wg91 => rfl); (case wo91 => rfl); (case wv91 => kernel_rfl); (case wf91 => exact BV2.out)) | ((with_reducible refine wpList_blk_store (op := ⟨none, .store 50 (.tmp 2) (.tmp 91), _, _, _, _⟩) ?sg15 50 (.tmp 2) (.tmp 91) ?so15 (w.heap.size) VW ?sx15 ?sy15 HV.out YVW.out QVW.out AVW.out ?_); (case sg15 => rfl); (case so15 => rfl); (case sx15 => rfl); (case sy15 => rfl)))
    clear L11 L12 L13 L14
    intro V92 hA hF hB
    replace K := Lib.hid (K.out.trans (hB _ (by omega)))
    replace HB := Lib.hid (show Blk _ _ _ _ from (hF _ (by omega)).trans HB.out)
    replace G := Lib.hid (show Blk _ _ _ _ from (hF _ (by omega)).trans G.out)
    replace NK := Lib.hid (show Blk _ _ _ _ from (hF _ (by omega)).trans NK.out)
    replace HV := Lib.hid hA
    clear hA hF hB
    go_wp2
    have hrun := run_blk_load (P := Try.prog) 50 w.heap.size _ HV.out Try.underlying50 rfl QVW.out
    exact bodyPost_ret (results_cell_tmp 2 50 3 w.heap.size _ Try.results19 rfl hrun) rfl ⟨rfl, K.out⟩
end Go.Proofs.Ytnpibdjfafpegaa
