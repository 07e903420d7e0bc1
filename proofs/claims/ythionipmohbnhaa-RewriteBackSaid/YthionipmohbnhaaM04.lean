/- Texts that the walks of this seat lean on, put together. -/
import Derived.Deep.DeepCutAuto
import Derived.BigFrame
import Derived.Test.YthionipmohbnhaaTk
import Derived.Test.YthionipmohbnhaaM01
import Derived.Test.YthionipmohbnhaaM02
import Derived.Test.YthionipmohbnhaaM03
namespace Go.Proofs.Ythionipmohbnhaa
open Go.RowKit
def rcells (s l p : Nat) (S D : Array Value) : Array Value := (Value.int .i64 (s : Int) :: .int .i64 (l : Int) :: .int .u8 (p : Int) :: (S.toList ++ D.toList)).toArray
theorem rcells_size (s l p : Nat) (S D : Array Value) (hS : S.size = 17) (hD : D.size = 17) : (rcells s l p S D).size = 37 := by simp [rcells, hS, hD]
theorem rcells_all (s l p : Nat) (S D : Array Value) (hS : S.all (·.oneCell') = true) (hD : D.all (·.oneCell') = true) : (rcells s l p S D).all (·.oneCell') = true := by
  rw [Array.all_eq_true_iff_forall_mem] at *
  intro x hx
  simp only [rcells, List.mem_toArray, List.mem_cons, List.mem_append, Array.mem_toList_iff] at hx
  rcases hx with rfl | rfl | rfl | h | h
  · rfl
  · rfl
  · rfl
  · exact hS x h
  · exact hD x h
theorem rcells_src (s l p : Nat) (S D : Array Value) : ((rcells s l p S D).toList.drop 3).take S.toList.length = S.toList := by simp [rcells]
theorem rcells_dst (s l p : Nat) (S D : Array Value) (hS : S.size = 17) : ((rcells s l p S D).toList.drop 20).take D.toList.length = D.toList := by
  have : S.toList.length = 17 := by simpa using hS
  show ((S.toList ++ D.toList).drop 17).take _ = _
  rw [← this, List.drop_left, List.take_length]
theorem rcells_get (s l p : Nat) (S D : Array Value) : (rcells s l p S D)[0]? = some (.int .i64 (s : Int)) ∧ (rcells s l p S D)[1]? = some (.int .i64 (l : Int)) ∧ (rcells s l p S D)[2]? = some (.int .u8 (p : Int)) := ⟨rfl, rfl, rfl⟩
def r0 : Array Value := rcells 0 0 0 z17 z17
theorem r0_size : r0.size = 37 := rfl
theorem r0_all : r0.all (·.oneCell') = true := rcells_all _ _ _ _ _ z17_all z17_all
def rd6 (zs : List Nat) : Array Value := if f6 zs = 0 then rcells 40 (40 + u2 zs 4) (zs.getD 6 0) (srcA zs) (dstA zs) else r0
theorem rd6_size (zs : List Nat) : (rd6 zs).size = 37 := by
  unfold rd6
  split
  · rename_i h
    have := ad_size zs (f6_yes zs h).1
    exact rcells_size _ _ _ _ _ this.1 this.2
  · rfl
theorem rd6_all (zs : List Nat) : (rd6 zs).all (·.oneCell') = true := by
  unfold rd6
  split
  · exact rcells_all _ _ _ _ _ (cellsA_all _ _) (cellsA_all _ _)
  · exact r0_all
theorem i37 : (Try.prog.info? 67).map (·.size) = some 37 := by kernel_rfl
set_option maxRecDepth 100000 in
theorem built_r (s l p : Nat) (S D : Array Value) (hS : S.size = 17) (hD : D.size = 17) : Try.prog.built 67 [(0, .int .i64 (s : Int)), (1, .int .i64 (l : Int)), (2, .int .u8 (p : Int)), (3, .agg S), (4, .agg D)] = some (rcells s l p S D) := by
  obtain ⟨x0, x1, x2, x3, x4, x5, x6, x7, x8, x9, x10, x11, x12, x13, x14, x15, x16, rfl⟩ := arr17 S hS
  obtain ⟨y0, y1, y2, y3, y4, y5, y6, y7, y8, y9, y10, y11, y12, y13, y14, y15, y16, rfl⟩ := arr17 D hD
  kernel_rfl
theorem be16_b (a : Option Addr) (len cap : Nat) (k : Nat) (zs : List Nat) (w : World) (hr : Rd w (.slice a len cap) (nus .u8 zs)) (hb : ∀ c ∈ zs, c < 256) (hk : k + 2 ≤ zs.length) :
    Calls Try.prog 45 #[.slice a len cap, .int .i64 (k : Int)] w fun e w' => e = .returned (.int .i64 (u2 zs k : Nat)) ∧ Below w.heap.size w w' :=
  (be16_any a len cap k zs w hr hb hk).mono fun e w1 hh => ⟨hh.1, by obtain ⟨n, h⟩ := hh.2; rw [h]; exact below_drewN (Below.refl _ _) n⟩
set_option maxRecDepth 100000 in
set_option maxHeartbeats 1000000 in
theorem rsix_short (v : Value) (zs : List Nat) (w : World) (hr : Rd w v (nus .u8 zs)) (h40 : zs.length < 40) :
    Calls Try.prog 35 #[v] w fun e w' => e = .returned (.tuple #[.agg r0, .int .i64 1]) ∧ Below w.heap.size w w' := by
  have K := Lib.hid (Below.refl w.heap.size w)
  obtain ⟨a, cap, rfl, -, hlm⟩ := rd_shape hr
  have Y0 : Hid (r0.size = Array.size (Zc37 : Array Value)) := r0_size
  have Z0 := Lib.hid (i37.trans (congrArg some r0_size.symm))
  have A0 := Lib.hid r0_all
  unfold maxLen at hlm
  generalize zs.length = n at *
  clear hr
  go_enter Try.func35, Try.ntmps35
  have hal := (Below.refl w.heap.size w).alloc (Nat.le_refl _) (.cells Zc37 67)
  replace K := Lib.hid (K.out.trans (hal.mono K.out.size))
  have HH := Lib.hid (Blk.new w 67 Zc37)
  clear hal
  go_wp2_with (((with_reducible refine wpList_blk_store (op := ⟨none, .store 67 (.tmp 2) (.tmp 12), _, _, _, _⟩) ?sg1 67 (.tmp 2) (.tmp 12) ?so1 (w.heap.size) r0 ?sx1 ?sy1 HH.out Y0.out Z0.out A0.out ?_); (case sg1 => rfl); (case so1 => rfl); (case sx1 => rfl); (case sy1 => rfl)))
  intro V1 hA hF hB
  replace K := Lib.hid (K.out.trans (hB _ (by omega)))
  replace HH := Lib.hid hA
  clear hA hF hB
  go_wp2
  have hrun := run_blk_load (P := Try.prog) 67 w.heap.size _ HH.out Try.underlying67 rfl Z0.out
  exact bodyPost_ret (results_cell_tmp 2 67 3 w.heap.size _ Try.results35 rfl hrun) rfl ⟨rfl, K.out⟩
set_option maxRecDepth 100000 in
set_option maxHeartbeats 4000000 in
theorem rsix_long (v : Value) (zs : List Nat) (w : World) (hr : Rd w v (nus .u8 zs)) (hb : ∀ c ∈ zs, c < 256) (h40 : ¬ zs.length < 40) :
    Calls Try.prog 35 #[v] w fun e w' => e = .returned (.tuple #[.agg (rd6 zs), .int .i64 (f6 zs : Nat)]) ∧ Below w.heap.size w w' := by
  have K := Lib.hid (Below.refl w.heap.size w)
  have HR := Lib.hid hr
  obtain ⟨a, cap, rfl, hlc, hlm⟩ := rd_shape hr
  obtain ⟨b, off, rfl, hce⟩ := hr.cells (by omega)
  have C6 := hce 6 (by omega)
  have C0 := hce 0 (by omega)
  have hb0 := rd_cell C6
  rw [Nat.add_zero] at C0
  have c6 := Lib.hid C6
  have c0 := Lib.hid C0
  have HS := Lib.hid (hr.sub 8 16 (by omega))
  have HD := Lib.hid (hr.sub 24 16 (by omega))
  have CB := Lib.hid (fun W (h : Rd W (.slice (some ⟨b, off, none⟩) zs.length cap) (nus .u8 zs)) => be16_b _ _ _ 4 zs W h hb (by omega))
  have l1 : ((zs.drop 8).take 16).length = 16 := by simp; omega
  have l2 : ((zs.drop 24).take 16).length = 16 := by simp; omega
  have C1 := Lib.hid (fun w' z (hw : Rd w' z (nus .u8 ((zs.drop 8).take 16))) => rfrom_ok z true _ w' hw (.inr ⟨l1, rfl⟩))
  have C2 := Lib.hid (fun w' z (hw : Rd w' z (nus .u8 ((zs.drop 24).take 16))) => rfrom_ok z true _ w' hw (.inr ⟨l2, rfl⟩))
  rw [l1, show (zs.drop 8).take 16 ++ List.replicate (16 - 16) 0 = (zs.drop 8).take 16 from by simp, show adr true ((zs.drop 8).take 16) = .agg (srcA zs) from rfl] at C1
  rw [l2, show (zs.drop 24).take 16 ++ List.replicate (16 - 16) 0 = (zs.drop 24).take 16 from by simp, show adr true ((zs.drop 24).take 16) = .agg (dstA zs) from rfl] at C2
  obtain ⟨sS, sD⟩ := ad_size zs (by omega)
  have aS : (srcA zs).all (·.oneCell') = true := cellsA_all _ _
  have aD : (dstA zs).all (·.oneCell') = true := cellsA_all _ _
  have hx := getD_lt zs hb 0
  have hp := getD_lt zs hb 6
  have hl := u2_lt zs 4 hb
  have hh : rd6 zs = if f6 zs = 0 then rcells 40 (40 + u2 zs 4) (zs.getD 6 0) (srcA zs) (dstA zs) else r0 := rfl
  have hf : f6 zs = _ := rfl
  conv at hf => rhs; unfold f6
  rw [if_neg h40] at hf
  have HH0 := Lib.hid hh
  have HF := Lib.hid hf
  clear hh hf
  generalize rd6 zs = HV at *
  generalize f6 zs = F at *
  generalize srcA zs = S at *
  generalize dstA zs = D at *
  generalize u2 zs 4 = l at *
  generalize zs.getD 6 0 = p at *
  generalize zs.getD 0 0 = x at *
  have hbd := built_r 40 (40 + l) p S D sS sD
  have hs := rcells_size 40 (40 + l) p S D sS sD
  have ha := rcells_all 40 (40 + l) p S D aS aD
  have HG := Lib.hid (rcells_get 40 (40 + l) p S D)
  generalize rcells 40 (40 + l) p S D = H at *
  have HBD := Lib.hid hbd
  have HW := Lib.hid (show IntKind.i64.wrap (40 + (l : Int)) = ((40 + l : Nat) : Int) by rw [IntKind.wrap_i64]; omega)
  have YS : Hid (S.size = Array.size (Zc17 : Array Value)) := sS
  have ZS := Lib.hid (i24.trans (congrArg some sS.symm))
  have AS := Lib.hid aS
  have YD : Hid (D.size = Array.size (Zc17 : Array Value)) := sD
  have ZD := Lib.hid (i24.trans (congrArg some sD.symm))
  have AD := Lib.hid aD
  have YH : Hid (H.size = Array.size (Zc37 : Array Value)) := hs
  have ZH := Lib.hid (i37.trans (congrArg some hs.symm))
  have AH := Lib.hid ha
  have YR : Hid (r0.size = Array.size (Zc37 : Array Value)) := r0_size
  have ZR := Lib.hid (i37.trans (congrArg some r0_size.symm))
  have AR := Lib.hid r0_all
  unfold maxLen at hlm
  have h6n : (6 : Int) < (zs.length : Int) := by omega
  clear hr hb hce sS sD aS aD hs ha hbd l1 l2 C6 C0
  generalize zs.length = n at *
  go_enter Try.func35, Try.ntmps35
  have hal := (Below.refl w.heap.size w).alloc (Nat.le_refl _) (.cells Zc37 67)
  replace K := Lib.hid (K.out.trans (hal.mono K.out.size))
  replace HR := Lib.hid (HR.out.below hal)
  replace HS := Lib.hid (HS.out.below hal)
  replace HD := Lib.hid (HD.out.below hal)
  have HH := Lib.hid (Blk.new w 67 Zc37)
  clear hal
  go_wp2_with fail
  generalize (w.alloc (.cells Zc37 67)) = V1 at *
  refine (C1.out _ _ HS.out).mono ?_
  rintro e V2 ⟨rfl, hy⟩
  replace K := Lib.hid (K.out.trans (hy.mono K.out.size))
  replace HR := Lib.hid (HR.out.below hy)
  replace HS := Lib.hid (HS.out.below hy)
  replace HD := Lib.hid (HD.out.below hy)
  replace HH := Lib.hid (HH.out.below hy HH.out.lt)
  clear hy
  go_wp2_with (((with_reducible refine wpList_blk_store (op := ⟨none, .store 25 (.tmp 4) (.tmp 17), _, _, _, _⟩) ?sg2 25 (.tmp 4) (.tmp 17) ?so2 (V2.heap.size) S ?sx2 ?sy2 (Blk.new V2 25 Zc17) YS.out ZS.out AS.out ?_); (case sg2 => rfl); (case so2 => rfl); (case sx2 => rfl); (case sy2 => rfl)))
  have qHHNS : w.heap.size < V2.heap.size := HH.out.lt
  intro V3 hA hF hB
  have hy := ((Below.refl V2.heap.size V2).alloc (Nat.le_refl _) (.cells Zc17 25)).trans (hB _ (Nat.le_refl _))
  replace K := Lib.hid (K.out.trans (hy.mono K.out.size))
  replace HR := Lib.hid (HR.out.below hy)
  replace HS := Lib.hid (HS.out.below hy)
  replace HD := Lib.hid (HD.out.below hy)
  replace HH := Lib.hid (HH.out.below hy HH.out.lt)
  have NS := Lib.hid hA
  clear hA hF hB hy
  go_wp2_with fail
  refine (C2.out _ _ HD.out).mono ?_
  rintro e V4 ⟨rfl, hy⟩
  replace K := Lib.hid (K.out.trans (hy.mono K.out.size))
  replace HR := Lib.hid (HR.out.below hy)
  replace HS := Lib.hid (HS.out.below hy)
  replace HD := Lib.hid (HD.out.below hy)
  replace HH := Lib.hid (HH.out.below hy HH.out.lt)
  replace NS := Lib.hid (NS.out.below hy NS.out.lt)
  clear hy
  go_wp2_with (((with_reducible refine wpList_blk_store (op := ⟨none, .store 25 (.tmp 6) (.tmp 23), _, _, _, _⟩) ?sg3 25 (.tmp 6) (.tmp 23) ?so3 (V4.heap.size) D ?sx3 ?sy3 (Blk.new V4 25 Zc17) YD.out ZD.out AD.out ?_); (case sg3 => rfl); (case so3 => rfl); (case sx3 => rfl); (case sy3 => rfl)))
  have qHHND : w.heap.size < V4.heap.size := HH.out.lt
  have qNSND : V2.heap.size < V4.heap.size := NS.out.lt
  intro V5 hA hF hB
  have hy := ((Below.refl V4.heap.size V4).alloc (Nat.le_refl _) (.cells Zc17 25)).trans (hB _ (Nat.le_refl _))
  replace K := Lib.hid (K.out.trans (hy.mono K.out.size))
  replace HR := Lib.hid (HR.out.below hy)
  replace HS := Lib.hid (HS.out.below hy)
  replace HD := Lib.hid (HD.out.below hy)
  replace HH := Lib.hid (HH.out.below hy HH.out.lt)
  replace NS := Lib.hid (NS.out.below hy NS.out.lt)
  have ND := Lib.hid hA
  clear hA hF hB hy
  go_upto_region 5 with fail
  have hlow : V5.heap.size ≤ V5.heap.size := Nat.le_refl _
  have qHH : w.heap.size < V5.heap.size := HH.out.lt
  have qK := K.out.size
  have qNS := NS.out.lt
  have qND := ND.out.lt
  go_cut [8] (fun v wx => ∃ g, v = .pointer (some ⟨g, 0, none⟩) ∧ Blk wx g 67 H ∧ Blk wx w.heap.size 67 Zc37 ∧ w.heap.size < g ∧ Below w.heap.size w wx)
  case first =>
    refine wp_region_held (S := (fun w' : World => Below (V5.heap.size) V5 w')) (by kernel_rfl) ?_
    change wpAnyH _ _ _ _ _ _ _ _ V5.drew
    have hy : Below V5.heap.size V5 V5.drew := (Below.refl _ _).drew
    have hE0 : Below (V5.heap.size) V5 V5.drew := (Below.refl _ _).drew
    clear hy
    generalize V5.drew = Y5x0 at hE0  ⊢
    have E0 := Lib.hid hE0
    clear hE0
    refine tkA 0 (?_) ?_ E0.out ?_
    rotate_left
    · (intro w1 hS; go_simp; try with_reducible rfl)
    simp only [Act.put, tS1, tS2, tS3]
    refine tkA 3 (?_) ?_ E0.out ?_
    rotate_left
    · (intro w1 hS; go_simp; try with_reducible rfl)
    simp only [Act.put, tS1, tS2, tS3]
    refine tkA 4 (?_) ?_ E0.out ?_
    rotate_left
    · (intro w1 hS; have hW := hS; have q := (K.out.trans (hW.mono K.out.size)).cell (p := ⟨b, off + 6, none⟩) hb0 |>.trans c6.out; clear hW hS; go_simp; try with_reducible rfl)
    simp only [Act.put, tS1, tS2, tS3]
    refine tkA 5 (?_) ?_ E0.out ?_
    rotate_left
    · (intro w1 hS; have hW := hS; have q := (K.out.trans (hW.mono K.out.size)).cell (p := ⟨b, off + 6, none⟩) hb0 |>.trans c6.out; clear hW hS; go_simp; try with_reducible rfl)
    simp only [Act.put, tS1, tS2, tS3]
    refine tkA 6 (.agg S) ?_ E0.out ?_
    · (intro w1 hS; have hW := hS; exact exec_load 25 (.tmp 4) rfl _ rfl _ (run_blk_load (P := Try.prog) 25 (V2.heap.size) _ (NS.out.below hW (by omega)) Try.underlying25 rfl ZS.out))
    simp only [Act.put, tS1, tS2, tS3]
    refine tkA 7 (.agg D) ?_ E0.out ?_
    · (intro w1 hS; have hW := hS; exact exec_load 25 (.tmp 6) rfl _ rfl _ (run_blk_load (P := Try.prog) 25 (V4.heap.size) _ (ND.out.below hW (by omega)) Try.underlying25 rfl ZD.out))
    simp only [Act.put, tS1, tS2, tS3]
    refine wpAnyH_ready (rs := [1, 9]) (by kernel_rfl) (by simp) ?_
    refine AllReadyH.cons (o := { dst := some 26, op := Op.call { callee := Callee.value (Operand.func 45), args := #[Operand.tmp 25, Operand.const (Value.int IntKind.i64 4)], argTypes := #[22, 3] }, type := 3, pos := "frame.go:249", after := #[{ on := 0, ground := Ground.data }], guard := none }) rfl (fun K hK => ?_) ?_
    · go_simp
      refine (CB.out Y5x0 (HR.out.below E0.out)).mono ?_
      rintro e Y5x1 ⟨rfl, hy⟩
      have E1 := Lib.hid (E0.out.trans (hy.mono (Nat.le_trans hlow E0.out.size)))
      have C1 := Lib.hid E1.out
      clear hy E0
      refine hK.out _ _ C1.out (fun _ => ?_)
      clear hK K
      clear C1
      try simp only [Act.put, tS1, tS2, tS3]
      refine tkA 2 (?_) ?_ E1.out ?_
      rotate_left
      · (intro w1 hS; have hW := hS; have q := HW.out; clear hW hS; go_simp; try with_reducible rfl)
      simp only [Act.put, tS1, tS2, tS3]
      refine tkA 8 (.agg H) ?_ E1.out ?_
      · (intro w1 hS; exact exec_build 67 _ rfl #[(0, .int .i64 40), (1, .int .i64 ((40 + l : Nat) : Int)), (2, .int .u8 (p : Int)), (3, .agg S), (4, .agg D)] (by kernel_rfl) H HBD.out)
      simp only [Act.put, tS1, tS2, tS3]
      refine tkO 9 (fun K hK => ?_)
      go_simp
      have NH := Blk.new Y5x1 67 Zc37
      have hy := (Below.refl Y5x1.heap.size Y5x1).alloc (Nat.le_refl _) (.cells Zc37 67)
      have gNH := Nat.le_trans (Nat.le_of_eq rfl) E1.out.size
      generalize Y5x1.alloc (.cells Zc37 67) = Y5x2 at NH hy ⊢
      replace NH := Lib.hid NH
      have E2 := Lib.hid (E1.out.trans (hy.mono (Nat.le_trans hlow E1.out.size)))
      have C2 := Lib.hid E2.out
      clear hy E1
      refine hK.out _ _ C2.out (fun _ => ?_)
      clear hK K
      clear C2
      try simp only [Act.put, tS1, tS2, tS3]
      refine tkO 10 (fun K hK => ?_)
      rw [if_pos (by rfl)]
      refine wp_blk_store 67 (.tmp 8) (.tmp 33) rfl H rfl rfl NH.out YH.out ZH.out AH.out ?_
      intro Y5x3 hA hF hB
      have E3 := Lib.hid (E2.out.trans (hB _ gNH))
      replace NH := Lib.hid hA
      clear hA hF hB E2
      refine hK.out _ _ E3.out (fun _ => ?_)
      clear hK K
      try simp only [Act.put]
      refine wpAnyH_done (by kernel_rfl) ?_ _
      go_wp2
      go_meet
      exact ⟨_, rfl, NH.out, HH.out.below E3.out HH.out.lt, Nat.lt_of_lt_of_le HH.out.lt gNH, K.out.trans (E3.out.mono K.out.size)⟩
    refine AllReadyH.cons (o := { dst := some 8, op := Op.alloc 67, type := 0, pos := "frame.go:249", after := #[], guard := none }) rfl (fun K hK => ?_) AllReadyH.nil
    go_simp
    have NH := Blk.new Y5x0 67 Zc37
    have hy := (Below.refl Y5x0.heap.size Y5x0).alloc (Nat.le_refl _) (.cells Zc37 67)
    have gNH := Nat.le_trans (Nat.le_of_eq rfl) E0.out.size
    generalize Y5x0.alloc (.cells Zc37 67) = Y5x1 at NH hy ⊢
    replace NH := Lib.hid NH
    have E1 := Lib.hid (E0.out.trans (hy.mono (Nat.le_trans hlow E0.out.size)))
    have C1 := Lib.hid E1.out
    clear hy E0
    refine hK.out _ _ C1.out (fun _ => ?_)
    clear hK K
    clear C1
    try simp only [Act.put, tS1, tS2, tS3]
    refine tkO 1 (fun K hK => ?_)
    go_simp
    refine (CB.out Y5x1 (HR.out.below E1.out)).mono ?_
    rintro e Y5x2 ⟨rfl, hy⟩
    replace NH := Lib.hid (NH.out.below hy NH.out.lt)
    have E2 := Lib.hid (E1.out.trans (hy.mono (Nat.le_trans hlow E1.out.size)))
    have C2 := Lib.hid E2.out
    clear hy E1
    refine hK.out _ _ C2.out (fun _ => ?_)
    clear hK K
    clear C2
    try simp only [Act.put, tS1, tS2, tS3]
    refine tkA 2 (?_) ?_ E2.out ?_
    rotate_left
    · (intro w1 hS; have hW := hS; have q := HW.out; clear hW hS; go_simp; try with_reducible rfl)
    simp only [Act.put, tS1, tS2, tS3]
    refine tkA 8 (.agg H) ?_ E2.out ?_
    · (intro w1 hS; exact exec_build 67 _ rfl #[(0, .int .i64 40), (1, .int .i64 ((40 + l : Nat) : Int)), (2, .int .u8 (p : Int)), (3, .agg S), (4, .agg D)] (by kernel_rfl) H HBD.out)
    simp only [Act.put, tS1, tS2, tS3]
    refine tkO 10 (fun K hK => ?_)
    rw [if_pos (by rfl)]
    refine wp_blk_store 67 (.tmp 8) (.tmp 33) rfl H rfl rfl NH.out YH.out ZH.out AH.out ?_
    intro Y5x3 hA hF hB
    have E3 := Lib.hid (E2.out.trans (hB _ gNH))
    replace NH := Lib.hid hA
    clear hA hF hB E2
    refine hK.out _ _ E3.out (fun _ => ?_)
    clear hK K
    try simp only [Act.put]
    refine wpAnyH_done (by kernel_rfl) ?_ _
    go_wp2
    go_meet
    exact ⟨_, rfl, NH.out, HH.out.below E3.out HH.out.lt, Nat.lt_of_lt_of_le HH.out.lt gNH, K.out.trans (E3.out.mono K.out.size)⟩
  case rest =>
    obtain ⟨g, rfl, hG, hN, hgl, hK⟩ := hcut
    have G := Lib.hid hG
    have e1 := (hG.cell 1).trans HG.out.2.1
    have e2 := (hG.cell 2).trans HG.out.2.2
    have c0 := (hK.cell (p := ⟨b, off, none⟩) hb0).trans c0.out
    clear HH
    have HH := Lib.hid hN
    clear K
    have K := Lib.hid hK
    clear hG hN hK HR HS HD C1 C2 CB NS ND HBD HG
    have h0n : 0 < n := by omega
    by_cases h6 : x / 16 = 6
    case neg =>
      have hf : F = 3 := by rw [HF.out, if_pos h6]
      have g4 : ((x : Int) / 16 != 6) = true := by rw [bne_iff_ne]; omega
      clear h6
      have hh : HV = r0 := by rw [HH0.out, if_neg (by omega)]
      subst hf hh
      go_wp2_with (((with_reducible refine wpList_blk_store (op := ⟨none, .store 67 (.tmp 2) (.tmp 40), _, _, _, _⟩) ?sg4 67 (.tmp 2) (.tmp 40) ?so4 (w.heap.size) r0 ?sx4 ?sy4 HH.out YR.out ZR.out AR.out ?_); (case sg4 => rfl); (case so4 => rfl); (case sx4 => rfl); (case sy4 => rfl)))
      intro V91 hA hF hB
      replace K := Lib.hid (K.out.trans (hB _ (by omega)))
      replace HH := Lib.hid hA
      clear hA hF hB
      go_wp2
      have hrun := run_blk_load (P := Try.prog) 67 w.heap.size _ HH.out Try.underlying67 rfl ZR.out
      exact bodyPost_ret (results_cell_tmp 2 67 3 w.heap.size _ Try.results35 rfl hrun) rfl ⟨rfl, K.out⟩
    have g4 : ((x : Int) / 16 != 6) = false := by rw [bne_eq_false_iff_eq]; omega
    rw [if_neg (by omega)] at HF
    clear h6
    by_cases hnl : n < 40 + l
    · have hf : F = 1 := by rw [HF.out, if_pos hnl]
      have gl : decide ((n : Int) < 40 + (l : Int)) = true := decide_eq_true (by omega)
      have hh : HV = r0 := by rw [HH0.out, if_neg (by omega)]
      subst hf hh
      go_wp2_with (((with_reducible refine wpList_blk_store (op := ⟨none, .store 67 (.tmp 2) (.tmp 47), _, _, _, _⟩) ?sg5 67 (.tmp 2) (.tmp 47) ?so5 (w.heap.size) r0 ?sx5 ?sy5 HH.out YR.out ZR.out AR.out ?_); (case sg5 => rfl); (case so5 => rfl); (case sx5 => rfl); (case sy5 => rfl)))
      intro V91 hA hF hB
      replace K := Lib.hid (K.out.trans (hB _ (by omega)))
      replace HH := Lib.hid hA
      clear hA hF hB
      go_wp2
      have hrun := run_blk_load (P := Try.prog) 67 w.heap.size _ HH.out Try.underlying67 rfl ZR.out
      exact bodyPost_ret (results_cell_tmp 2 67 3 w.heap.size _ Try.results35 rfl hrun) rfl ⟨rfl, K.out⟩
    have gl : decide ((n : Int) < 40 + (l : Int)) = false := decide_eq_false (by omega)
    rw [if_neg hnl] at HF
    by_cases hp44 : p = 44
    · have hf : F = 5 := by rw [HF.out, if_pos hp44]
      have hh : HV = r0 := by rw [HH0.out, if_neg (by omega)]
      subst hf hp44 hh
      go_wp2_with (((with_reducible refine wpList_blk_store (op := ⟨none, .store 67 (.tmp 2) (.tmp 52), _, _, _, _⟩) ?sg6 67 (.tmp 2) (.tmp 52) ?so6 (w.heap.size) r0 ?sx6 ?sy6 HH.out YR.out ZR.out AR.out ?_); (case sg6 => rfl); (case so6 => rfl); (case sx6 => rfl); (case sy6 => rfl)))
      intro V91 hA hF hB
      replace K := Lib.hid (K.out.trans (hB _ (by omega)))
      replace HH := Lib.hid hA
      clear hA hF hB
      go_wp2
      have hrun := run_blk_load (P := Try.prog) 67 w.heap.size _ HH.out Try.underlying67 rfl ZR.out
      exact bodyPost_ret (results_cell_tmp 2 67 3 w.heap.size _ Try.results35 rfl hrun) rfl ⟨rfl, K.out⟩
    rw [if_neg hp44] at HF
    have g44 : ((p : Int) == 44) = false := by rw [beq_eq_false_iff_ne]; omega
    by_cases hpp : p = 6 ∨ p = 17
    case neg =>
      have hf : F = 6 := by rw [HF.out, if_pos (by omega)]
      have hh : HV = r0 := by rw [HH0.out, if_neg (by omega)]
      have g6 : ((p : Int) != 6) = true := by rw [bne_iff_ne]; omega
      have g17 : ((p : Int) != 17) = true := by rw [bne_iff_ne]; omega
      clear hpp hp44
      subst hf hh
      go_wp2_with (((with_reducible refine wpList_blk_store (op := ⟨none, .store 67 (.tmp 2) (.tmp 62), _, _, _, _⟩) ?sg7 67 (.tmp 2) (.tmp 62) ?so7 (w.heap.size) r0 ?sx7 ?sy7 HH.out YR.out ZR.out AR.out ?_); (case sg7 => rfl); (case so7 => rfl); (case sx7 => rfl); (case sy7 => rfl)))
      intro V91 hA hF hB
      replace K := Lib.hid (K.out.trans (hB _ (by omega)))
      replace HH := Lib.hid hA
      clear hA hF hB
      go_wp2
      have hrun := run_blk_load (P := Try.prog) 67 w.heap.size _ HH.out Try.underlying67 rfl ZR.out
      exact bodyPost_ret (results_cell_tmp 2 67 3 w.heap.size _ Try.results35 rfl hrun) rfl ⟨rfl, K.out⟩
    have hf : F = 0 := by rw [HF.out, if_neg (by omega)]
    have hh : HV = H := by rw [HH0.out, if_pos hf]
    clear hp44
    subst hf hh
    rcases hpp with rfl | rfl
    all_goals
      have L8 : (loadVar 67 ⟨g, 0, none⟩).run Try.prog wc = .ok (.agg HV) wc := run_blk_load (P := Try.prog) 67 (g) _ G.out Try.underlying67 rfl ZH.out
      replace L8 := Lib.hid L8
      go_wp2_with (first | ((with_reducible refine wpList_load_want (op := ⟨some 63, .load 67 (.tmp 8), _, _, _, _⟩) ?wg8 67 (.tmp 8) ?wo8 ⟨g, 0, none⟩ ?wx8 (.agg HV) L8.out ?_); (case wg8 => rfl); (case wo8 => rfl); (case wx8 => rfl)) | ((with_reducible refine wpList_blk_store (op := ⟨none, .store 67 (.tmp 2) (.tmp 63), _, _, _, _⟩) ?sg9 67 (.tmp 2) (.tmp 63) ?so9 (w.heap.size) HV ?sx9 ?sy9 HH.out YH.out ZH.out AH.out ?_); (case sg9 => rfl); (case so9 => rfl); (case sx9 => rfl); (case sy9 => rfl)))
      clear L8
      intro V91 hA hF hB
      replace K := Lib.hid (K.out.trans (hB _ (by omega)))
      replace G := Lib.hid ((hF _ (by omega)).trans G.out)
      replace HH := Lib.hid hA
      clear hA hF hB
      go_wp2
      have hrun := run_blk_load (P := Try.prog) 67 w.heap.size _ HH.out Try.underlying67 rfl ZH.out
      exact bodyPost_ret (results_cell_tmp 2 67 3 w.heap.size _ Try.results35 rfl hrun) rfl ⟨rfl, K.out⟩
theorem rsix_any (v : Value) (zs : List Nat) (w : World) (hr : Rd w v (nus .u8 zs)) (hb : ∀ c ∈ zs, c < 256) :
    Calls Try.prog 35 #[v] w fun e w' => e = .returned (.tuple #[.agg (rd6 zs), .int .i64 (f6 zs : Nat)]) ∧ Below w.heap.size w w' := by
  by_cases h : zs.length < 40
  · have h1 : f6 zs = 1 := by unfold f6; rw [if_pos h]
    have e : rd6 zs = r0 := by unfold rd6; rw [if_neg (by omega)]
    rw [e, h1]
    exact rsix_short v zs w hr h
  · exact rsix_long v zs w hr hb h
end Go.Proofs.Ythionipmohbnhaa
namespace Go.Proofs.Ythionipmohbnhaa
open Go.RowKit
theorem Blk.thereAt {w : World} {g : Nat} {t : TypeId} {cs : Array Value} (h : Blk w g t cs) {o n : Nat} (hn : o + n ≤ cs.size) : w.there g o n := fun j hj => by
  rw [h.cell (o + j), h.frozen (o + j)]
  simp
  omega
theorem wpList_part_store {P : Program} {w : World} {g : Nat} {t : TypeId} {cs : Array Value} {ops : Array Oper} {rest : List Oper} {op : Oper} {a : Act} {Q : Exit → Act → World → Prop} (hgd : op.guard = none) (ty : TypeId) (x y : Operand) (ho : op.op = .store ty x y)
    (off : Nat) (vs : Array Value) (hx : a.eval x = .pointer (some ⟨g, off, none⟩)) (hy : a.eval y = .agg vs) (hc : Blk w g t cs) (hs : off + vs.size ≤ cs.size)
    (hi : (P.info? ty).map (·.size) = some vs.size) (h1 : vs.all (·.oneCell') = true)
    (h : ∀ w', Blk w' g t (setL cs off vs.toList) → (∀ k, k ≠ g → w'.heap[k]? = w.heap[k]?) → (∀ B, B ≤ g → Below B w w') → wpList P ops Q rest (a.put op.dst undef) w') : wpList P ops Q (op :: rest) a w :=
  wpList_store_mid hgd ty x y ho g off vs hx hy (hc.thereAt hs) hi h1
    (h _ (Blk.setCells vs.toList off w cs hc) (fun k hk => setCells_far k hk _ _ _) (fun _ hB => setCells_below hB _ _ _ (Below.refl _ _)))
end Go.Proofs.Ythionipmohbnhaa
namespace Go.Proofs.Ythionipmohbnhaa
open Go.RowKit
def kS (u : Nat) : List Nat := [10, u / 65536 % 256, u / 256 % 256, u % 256]
def kD : List Nat := [192, 168, 0, 1]
def kcells (p : Nat) (S D : Array Value) (sp dp : Nat) : Array Value := (Value.int .u8 (p : Int) :: (S.toList ++ (D.toList ++ [.int .u16 (sp : Int), .int .u16 (dp : Int)]))).toArray
theorem k_bytes (u : Nat) (h : u < 1073741824) : IntKind.u32.wrap (u : Int) = (u : Int) ∧ IntKind.u8.wrap ((u : Int) / 65536) = ((u / 65536 % 256 : Nat) : Int) ∧ IntKind.u8.wrap ((u : Int) / 256) = ((u / 256 % 256 : Nat) : Int) ∧ IntKind.u8.wrap (u : Int) = ((u % 256 : Nat) : Int) ∧
    IntKind.u16.wrap (1000 + (u : Int) % 50000) = ((1000 + u % 50000 : Nat) : Int) := by
  refine ⟨?_, ?_, ?_, ?_, ?_⟩
  · rw [IntKind.wrap_u32]; omega
  · rw [IntKind.wrap_u8]; omega
  · rw [IntKind.wrap_u8]; omega
  · rw [IntKind.wrap_u8]; omega
  · rw [IntKind.wrap_u16]; omega
theorem i42 : (Try.prog.info? 37).map (·.size) = some 37 := by kernel_rfl
theorem kcells_size (p : Nat) (S D : Array Value) (sp dp : Nat) (hS : S.size = 17) (hD : D.size = 17) : (kcells p S D sp dp).size = 37 := by
  simp [kcells, hS, hD]
theorem kcells_all (p : Nat) (S D : Array Value) (sp dp : Nat) (hS : S.all (·.oneCell') = true) (hD : D.all (·.oneCell') = true) : (kcells p S D sp dp).all (·.oneCell') = true := by
  rw [Array.all_eq_true_iff_forall_mem] at *
  intro x hx
  simp only [kcells, List.mem_toArray, List.mem_cons, List.mem_append, Array.mem_toList_iff, List.not_mem_nil, or_false] at hx
  rcases hx with rfl | h | h | rfl | rfl
  · rfl
  · exact hS x h
  · exact hD x h
  · rfl
  · rfl
def z16 : List Nat := [0, 0, 0, 0, 0, 0, 0, 0, 0, 0, 0, 0, 0, 0, 0, 0]
theorem i16 : (Try.prog.info? 23).map (·.size) = some 16 := by kernel_rfl
theorem nus_all (zs : List Nat) : (nus .u8 zs).toArray.all (·.oneCell') = true := Array.all_eq_true_iff_forall_mem.2 fun x hx => oneCell_nus _ _ x (by simpa using hx)
theorem setL_size : ∀ (vs : List Value) (cs : Array Value) (o : Nat), (setL cs o vs).size = cs.size
  | [], _, _ => rfl
  | v :: r, cs, o => by rw [setL, setL_size r]; simp
theorem key_fin6 (u sp : Nat) (v : Bool) : setL (setL (((kcells 6 (cellsA false z16) (cellsA false z16) sp 80).setIfInBounds 1 (.bool v)).setIfInBounds 18 (.bool v)) 2 (nus .u8 (kS u ++ List.replicate 12 0)).toArray.toList) 19 (nus .u8 (kD ++ List.replicate 12 0)).toArray.toList = kcells 6 (cellsA v (kS u ++ List.replicate 12 0)) (cellsA v (kD ++ List.replicate 12 0)) sp 80 := by
  kernel_rfl
theorem key_fin17 (u sp : Nat) (v : Bool) : setL (setL ((((kcells 6 (cellsA false z16) (cellsA false z16) sp 80).setIfInBounds 0 (.int .u8 17)).setIfInBounds 1 (.bool v)).setIfInBounds 18 (.bool v)) 2 (nus .u8 (kS u ++ List.replicate 12 0)).toArray.toList) 19 (nus .u8 (kD ++ List.replicate 12 0)).toArray.toList = kcells 17 (cellsA v (kS u ++ List.replicate 12 0)) (cellsA v (kD ++ List.replicate 12 0)) sp 80 := by
  kernel_rfl
set_option maxRecDepth 100000 in
set_option maxHeartbeats 2000000 in
theorem key_tcp (n : Int) (v : Bool) (u sp : Nat) (w : World) (HU : Hid (n % 1073741824 = (u : Int))) (hul : u < 1073741824) (hsp : sp = 1000 + u % 50000) :
    Calls Try.prog 12 #[.int .i64 n, .bool v, .bool false] w fun e w' => e = .returned (.agg (kcells 6 (cellsA v (kS u ++ List.replicate 12 0)) (cellsA v (kD ++ List.replicate 12 0)) sp 80)) ∧ Below w.heap.size w w' := by
  obtain ⟨b0, b1, b2, b3, b4⟩ := k_bytes u hul
  rw [← hsp] at b4
  have Z42 := Lib.hid (i42.trans (congrArg some (kcells_size 6 (cellsA false z16) (cellsA false z16) sp 80 rfl rfl).symm))
  have ZZ : Hid ((kcells 6 (cellsA false z16) (cellsA false z16) sp 80).size = Array.size (ZcK : Array Value)) := kcells_size 6 (cellsA false z16) (cellsA false z16) sp 80 rfl rfl
  have AA := Lib.hid (kcells_all 6 (cellsA false z16) (cellsA false z16) sp 80 (cellsA_all _ _) (cellsA_all _ _))
  have NR := Lib.hid ((Blk.new w 37 ZcK).alloc (.cells ZcK 37))
  have NG := Blk.new (w.alloc (.cells ZcK 37)) 37 ZcK
  rw [World.size_alloc] at NG
  have NG := Lib.hid NG
  have K1 := Lib.hid (((Below.refl w.heap.size w).alloc (Nat.le_refl _) (.cells ZcK 37)).alloc (by simp) (.cells ZcK 37))
  obtain ⟨kc, hkc⟩ : ∃ kc, kc = kcells 6 (cellsA false z16) (cellsA false z16) sp 80 := ⟨_, rfl⟩
  have hlit : (.agg #[.int .u8 6, .bool false, .int .u8 0, .int .u8 0, .int .u8 0, .int .u8 0, .int .u8 0, .int .u8 0, .int .u8 0, .int .u8 0, .int .u8 0, .int .u8 0, .int .u8 0, .int .u8 0, .int .u8 0, .int .u8 0, .int .u8 0, .int .u8 0, .bool false, .int .u8 0, .int .u8 0, .int .u8 0, .int .u8 0, .int .u8 0, .int .u8 0, .int .u8 0, .int .u8 0, .int .u8 0, .int .u8 0, .int .u8 0, .int .u8 0, .int .u8 0, .int .u8 0, .int .u8 0, .int .u8 0, .int .u16 (1000 + (u : Int) % 50000), .int .u16 80] : Value) = .agg kc := by rw [hkc, hsp]; rfl
  rw [← hkc] at Z42 ZZ AA
  have k0 : kc[0]? = some (.int .u8 6) := by rw [hkc]; rfl
  have k1 : kc[1]? = some (.bool false) := by rw [hkc]; rfl
  have k18 : kc[18]? = some (.bool false) := by rw [hkc]; rfl
  have HL := Lib.hid hlit
  have HK := Lib.hid hkc
  clear hlit hkc
  go_enter Try.func12, Try.ntmps12
  go_wp2_with fail
  refine (round_any n 1073741824 _ (by omega) (by omega)).mono ?_
  rintro e w' ⟨rfl, rfl⟩
  rw [HU.out]
  go_wp2_with (((with_reducible refine wpList_blk_store (op := ⟨none, .store 37 (.tmp 8) (.tmp 16), _, _, _, _⟩) ?sg4 37 (.tmp 8) (.tmp 16) ?so4 ((w.heap.size + 1)) kc ?sx4 ?sy4 NG.out ZZ.out Z42.out AA.out ?_); (case sg4 => rfl); (case so4 => rfl); (case sx4 => rfl); (case sy4 => exact HL.out)))
  intro W2 hA hF hB
  have K2 := Lib.hid (K1.out.trans (hB _ (Nat.le_succ _)))
  have R2 := Lib.hid (show Blk W2 w.heap.size 37 ZcK from (hF _ (by omega)).trans NR.out)
  have A3 := Lib.hid ((hA.set_ 1 (.bool v)).set_ 18 (.bool v))
  have c0 := (hA.cell 0).trans k0
  have c1 := (hA.cell 1).trans k1
  have c18 := (hA.cell 18).trans k18
  have f0 := hA.frozen 0
  have f1 := hA.frozen 1
  have f18 := hA.frozen 18
  have hsz : kc.size = 37 := by rw [HK.out]; exact kcells_size _ _ _ _ _ rfl rfl
  have s3 : ((kc.setIfInBounds 1 (.bool v)).setIfInBounds 18 (.bool v)).size = 37 := by simp [hsz]
  clear hA hF hB K1 NR NG k0 k1 k18 hsz
  have HI1 : Hid ((Try.prog.info? 23).map (·.size) = some (nus .u8 (kS u ++ List.replicate 12 0)).toArray.size) := i16
  have HI2 : Hid ((Try.prog.info? 23).map (·.size) = some (nus .u8 (kD ++ List.replicate 12 0)).toArray.size) := i16
  have v1 : (nus .u8 (kS u ++ List.replicate 12 0)).toArray.size = 16 := rfl
  have v2 : (nus .u8 (kD ++ List.replicate 12 0)).toArray.size = 16 := rfl
  have HS1 := Lib.hid (show 2 + (nus .u8 (kS u ++ List.replicate 12 0)).toArray.size ≤ ((kc.setIfInBounds 1 (.bool v)).setIfInBounds 18 (.bool v)).size by rw [s3, v1]; omega)
  go_wp2_with (((with_reducible refine wpList_part_store (op := ⟨none, .store 23 (.tmp 35) (.tmp 33), _, _, _, _⟩) ?pg3 23 (.tmp 35) (.tmp 33) ?po3 2 (nus .u8 (kS u ++ List.replicate 12 0)).toArray ?px3 ?py3 A3.out HS1.out HI1.out (nus_all _) ?_); (case pg3 => rfl); (case po3 => rfl); (case px3 => rfl); (case py3 => rfl)))
  intro W4 hA hF hB
  have K4 := Lib.hid (((K2.out.setCell (p := ⟨w.heap.size + 1, 1, none⟩) (Nat.le_succ _) (.bool v)).setCell (p := ⟨w.heap.size + 1, 18, none⟩) (Nat.le_succ _) (.bool v)).trans (hB _ (Nat.le_succ _)))
  have R4 := Lib.hid (show Blk W4 w.heap.size 37 ZcK from (hF _ (by omega)).trans (((R2.out.far (p := ⟨w.heap.size + 1, 1, none⟩) (by simp) (.bool v)).far (p := ⟨w.heap.size + 1, 18, none⟩) (by simp) (.bool v))))
  have A4 := Lib.hid hA
  have s4 : (setL ((kc.setIfInBounds 1 (.bool v)).setIfInBounds 18 (.bool v)) 2 (nus .u8 (kS u ++ List.replicate 12 0)).toArray.toList).size = 37 := by rw [setL_size]; exact s3
  have HS2 := Lib.hid (show 19 + (nus .u8 (kD ++ List.replicate 12 0)).toArray.size ≤ (setL ((kc.setIfInBounds 1 (.bool v)).setIfInBounds 18 (.bool v)) 2 (nus .u8 (kS u ++ List.replicate 12 0)).toArray.toList).size by rw [s4, v2]; omega)
  clear hA hF hB A3 R2 K2 c0 c1 c18 f0 f1 f18 v1 v2 s3 s4 HS1 HI1
  go_wp2_with (((with_reducible refine wpList_part_store (op := ⟨none, .store 23 (.tmp 38) (.tmp 36), _, _, _, _⟩) ?pg4 23 (.tmp 38) (.tmp 36) ?po4 19 (nus .u8 (kD ++ List.replicate 12 0)).toArray ?px4 ?py4 A4.out HS2.out HI2.out (nus_all _) ?_); (case pg4 => rfl); (case po4 => rfl); (case px4 => rfl); (case py4 => rfl)))
  intro W5 hA hF hB
  have K5 := Lib.hid (K4.out.trans (hB _ (Nat.le_succ _)))
  have R5 := Lib.hid (show Blk W5 w.heap.size 37 ZcK from (hF _ (by omega)).trans R4.out)
  rw [HK.out] at hA
  have hA5 : Blk W5 (w.heap.size + 1) 37 (kcells 6 (cellsA v (kS u ++ List.replicate 12 0)) (cellsA v (kD ++ List.replicate 12 0)) sp 80) := by
    rw [← key_fin6 u sp v]
    exact hA
  have A5 := Lib.hid hA5
  have y1 := kcells_size 6 (cellsA v (kS u ++ List.replicate 12 0)) (cellsA v (kD ++ List.replicate 12 0)) sp 80 rfl rfl
  have y2 := kcells_all 6 (cellsA v (kS u ++ List.replicate 12 0)) (cellsA v (kD ++ List.replicate 12 0)) sp 80 (cellsA_all _ _) (cellsA_all _ _)
  have E9 : Hid (_ = _) := show kcells 6 (cellsA v (kS u ++ List.replicate 12 0)) (cellsA v (kD ++ List.replicate 12 0)) sp 80 = _ from rfl
  clear hA hF hB hA5 A4 R4 K4 HS2 HI2
  generalize hfin : kcells 6 (cellsA v (kS u ++ List.replicate 12 0)) (cellsA v (kD ++ List.replicate 12 0)) sp 80 = fin at A5 y1 y2 E9
  have HFIN := Lib.hid hfin
  have Z5 := Lib.hid (i42.trans (congrArg some y1.symm))
  have Z6 : Hid (fin.size = Array.size (ZcK : Array Value)) := y1
  have AL := Lib.hid y2
  clear hfin y1 y2 E9
  go_wp2_with (first | ((with_reducible refine wpList_blk_load (op := ⟨some 39, .load 37 (.tmp 8), _, _, _, _⟩) ?lg5 37 (.tmp 8) ?lo5 ((w.heap.size + 1)) ?lx5 _ A5.out Try.underlying37 ?ld5 Z5.out ?_); (case lg5 => rfl); (case lo5 => rfl); (case lx5 => rfl); (case ld5 => rfl)) | ((with_reducible refine wpList_blk_store (op := ⟨none, .store 37 (.tmp 6) (.tmp 39), _, _, _, _⟩) ?sg6 37 (.tmp 6) (.tmp 39) ?so6 (w.heap.size) fin ?sx6 ?sy6 R5.out Z6.out Z5.out AL.out ?_); (case sg6 => rfl); (case so6 => rfl); (case sx6 => rfl); (case sy6 => rfl)))
  intro W6 hA hF hB
  have K6 := Lib.hid (K5.out.trans (hB _ (Nat.le_refl _)))
  have HA := Lib.hid hA
  clear hA hF hB
  go_wp2
  have hrun := run_blk_load (P := Try.prog) 37 w.heap.size _ HA.out Try.underlying37 rfl Z5.out
  exact bodyPost_ret (results_cell 6 37 w.heap.size _ Try.results12 rfl hrun) rfl ⟨by rw [HFIN.out], K6.out⟩
set_option maxRecDepth 100000 in
set_option maxHeartbeats 2000000 in
theorem key_udp (n : Int) (v : Bool) (u sp : Nat) (w : World) (HU : Hid (n % 1073741824 = (u : Int))) (hul : u < 1073741824) (hsp : sp = 1000 + u % 50000) :
    Calls Try.prog 12 #[.int .i64 n, .bool v, .bool true] w fun e w' => e = .returned (.agg (kcells 17 (cellsA v (kS u ++ List.replicate 12 0)) (cellsA v (kD ++ List.replicate 12 0)) sp 80)) ∧ Below w.heap.size w w' := by
  obtain ⟨b0, b1, b2, b3, b4⟩ := k_bytes u hul
  rw [← hsp] at b4
  have Z42 := Lib.hid (i42.trans (congrArg some (kcells_size 6 (cellsA false z16) (cellsA false z16) sp 80 rfl rfl).symm))
  have ZZ : Hid ((kcells 6 (cellsA false z16) (cellsA false z16) sp 80).size = Array.size (ZcK : Array Value)) := kcells_size 6 (cellsA false z16) (cellsA false z16) sp 80 rfl rfl
  have AA := Lib.hid (kcells_all 6 (cellsA false z16) (cellsA false z16) sp 80 (cellsA_all _ _) (cellsA_all _ _))
  have NR := Lib.hid ((Blk.new w 37 ZcK).alloc (.cells ZcK 37))
  have NG := Blk.new (w.alloc (.cells ZcK 37)) 37 ZcK
  rw [World.size_alloc] at NG
  have NG := Lib.hid NG
  have K1 := Lib.hid (((Below.refl w.heap.size w).alloc (Nat.le_refl _) (.cells ZcK 37)).alloc (by simp) (.cells ZcK 37))
  obtain ⟨kc, hkc⟩ : ∃ kc, kc = kcells 6 (cellsA false z16) (cellsA false z16) sp 80 := ⟨_, rfl⟩
  have hlit : (.agg #[.int .u8 6, .bool false, .int .u8 0, .int .u8 0, .int .u8 0, .int .u8 0, .int .u8 0, .int .u8 0, .int .u8 0, .int .u8 0, .int .u8 0, .int .u8 0, .int .u8 0, .int .u8 0, .int .u8 0, .int .u8 0, .int .u8 0, .int .u8 0, .bool false, .int .u8 0, .int .u8 0, .int .u8 0, .int .u8 0, .int .u8 0, .int .u8 0, .int .u8 0, .int .u8 0, .int .u8 0, .int .u8 0, .int .u8 0, .int .u8 0, .int .u8 0, .int .u8 0, .int .u8 0, .int .u8 0, .int .u16 (1000 + (u : Int) % 50000), .int .u16 80] : Value) = .agg kc := by rw [hkc, hsp]; rfl
  rw [← hkc] at Z42 ZZ AA
  have k0 : kc[0]? = some (.int .u8 6) := by rw [hkc]; rfl
  have k1 : kc[1]? = some (.bool false) := by rw [hkc]; rfl
  have k18 : kc[18]? = some (.bool false) := by rw [hkc]; rfl
  have HL := Lib.hid hlit
  have HK := Lib.hid hkc
  clear hlit hkc
  go_enter Try.func12, Try.ntmps12
  go_wp2_with fail
  refine (round_any n 1073741824 _ (by omega) (by omega)).mono ?_
  rintro e w' ⟨rfl, rfl⟩
  rw [HU.out]
  go_wp2_with (((with_reducible refine wpList_blk_store (op := ⟨none, .store 37 (.tmp 8) (.tmp 16), _, _, _, _⟩) ?sg1 37 (.tmp 8) (.tmp 16) ?so1 ((w.heap.size + 1)) kc ?sx1 ?sy1 NG.out ZZ.out Z42.out AA.out ?_); (case sg1 => rfl); (case so1 => rfl); (case sx1 => rfl); (case sy1 => exact HL.out)))
  intro W2 hA hF hB
  have K2 := Lib.hid (K1.out.trans (hB _ (Nat.le_succ _)))
  have R2 := Lib.hid (show Blk W2 w.heap.size 37 ZcK from (hF _ (by omega)).trans NR.out)
  have A3 := Lib.hid (((hA.set_ 0 (.int .u8 17)).set_ 1 (.bool v)).set_ 18 (.bool v))
  have c0 := (hA.cell 0).trans k0
  have c1 := (hA.cell 1).trans k1
  have c18 := (hA.cell 18).trans k18
  have f0 := hA.frozen 0
  have f1 := hA.frozen 1
  have f18 := hA.frozen 18
  have hsz : kc.size = 37 := by rw [HK.out]; exact kcells_size _ _ _ _ _ rfl rfl
  have s3 : (((kc.setIfInBounds 0 (.int .u8 17)).setIfInBounds 1 (.bool v)).setIfInBounds 18 (.bool v)).size = 37 := by simp [hsz]
  clear hA hF hB K1 NR NG k0 k1 k18 hsz
  have HI1 : Hid ((Try.prog.info? 23).map (·.size) = some (nus .u8 (kS u ++ List.replicate 12 0)).toArray.size) := i16
  have HI2 : Hid ((Try.prog.info? 23).map (·.size) = some (nus .u8 (kD ++ List.replicate 12 0)).toArray.size) := i16
  have v1 : (nus .u8 (kS u ++ List.replicate 12 0)).toArray.size = 16 := rfl
  have v2 : (nus .u8 (kD ++ List.replicate 12 0)).toArray.size = 16 := rfl
  have HS1 := Lib.hid (show 2 + (nus .u8 (kS u ++ List.replicate 12 0)).toArray.size ≤ (((kc.setIfInBounds 0 (.int .u8 17)).setIfInBounds 1 (.bool v)).setIfInBounds 18 (.bool v)).size by rw [s3, v1]; omega)
  go_wp2_with (((with_reducible refine wpList_part_store (op := ⟨none, .store 23 (.tmp 35) (.tmp 33), _, _, _, _⟩) ?pg1 23 (.tmp 35) (.tmp 33) ?po1 2 (nus .u8 (kS u ++ List.replicate 12 0)).toArray ?px1 ?py1 A3.out HS1.out HI1.out (nus_all _) ?_); (case pg1 => rfl); (case po1 => rfl); (case px1 => rfl); (case py1 => rfl)))
  intro W4 hA hF hB
  have K4 := Lib.hid ((((K2.out.setCell (p := ⟨w.heap.size + 1, 0, none⟩) (Nat.le_succ _) (.int .u8 17)).setCell (p := ⟨w.heap.size + 1, 1, none⟩) (Nat.le_succ _) (.bool v)).setCell (p := ⟨w.heap.size + 1, 18, none⟩) (Nat.le_succ _) (.bool v)).trans (hB _ (Nat.le_succ _)))
  have R4 := Lib.hid (show Blk W4 w.heap.size 37 ZcK from (hF _ (by omega)).trans ((((R2.out.far (p := ⟨w.heap.size + 1, 0, none⟩) (by simp) (.int .u8 17)).far (p := ⟨w.heap.size + 1, 1, none⟩) (by simp) (.bool v)).far (p := ⟨w.heap.size + 1, 18, none⟩) (by simp) (.bool v))))
  have A4 := Lib.hid hA
  have s4 : (setL (((kc.setIfInBounds 0 (.int .u8 17)).setIfInBounds 1 (.bool v)).setIfInBounds 18 (.bool v)) 2 (nus .u8 (kS u ++ List.replicate 12 0)).toArray.toList).size = 37 := by rw [setL_size]; exact s3
  have HS2 := Lib.hid (show 19 + (nus .u8 (kD ++ List.replicate 12 0)).toArray.size ≤ (setL (((kc.setIfInBounds 0 (.int .u8 17)).setIfInBounds 1 (.bool v)).setIfInBounds 18 (.bool v)) 2 (nus .u8 (kS u ++ List.replicate 12 0)).toArray.toList).size by rw [s4, v2]; omega)
  clear hA hF hB A3 R2 K2 c0 c1 c18 f0 f1 f18 v1 v2 s3 s4 HS1 HI1
  go_wp2_with (((with_reducible refine wpList_part_store (op := ⟨none, .store 23 (.tmp 38) (.tmp 36), _, _, _, _⟩) ?pg2 23 (.tmp 38) (.tmp 36) ?po2 19 (nus .u8 (kD ++ List.replicate 12 0)).toArray ?px2 ?py2 A4.out HS2.out HI2.out (nus_all _) ?_); (case pg2 => rfl); (case po2 => rfl); (case px2 => rfl); (case py2 => rfl)))
  intro W5 hA hF hB
  have K5 := Lib.hid (K4.out.trans (hB _ (Nat.le_succ _)))
  have R5 := Lib.hid (show Blk W5 w.heap.size 37 ZcK from (hF _ (by omega)).trans R4.out)
  rw [HK.out] at hA
  have hA5 : Blk W5 (w.heap.size + 1) 37 (kcells 17 (cellsA v (kS u ++ List.replicate 12 0)) (cellsA v (kD ++ List.replicate 12 0)) sp 80) := by
    rw [← key_fin17 u sp v]
    exact hA
  have A5 := Lib.hid hA5
  have y1 := kcells_size 17 (cellsA v (kS u ++ List.replicate 12 0)) (cellsA v (kD ++ List.replicate 12 0)) sp 80 rfl rfl
  have y2 := kcells_all 17 (cellsA v (kS u ++ List.replicate 12 0)) (cellsA v (kD ++ List.replicate 12 0)) sp 80 (cellsA_all _ _) (cellsA_all _ _)
  have E9 : Hid (_ = _) := show kcells 17 (cellsA v (kS u ++ List.replicate 12 0)) (cellsA v (kD ++ List.replicate 12 0)) sp 80 = _ from rfl
  clear hA hF hB hA5 A4 R4 K4 HS2 HI2
  generalize hfin : kcells 17 (cellsA v (kS u ++ List.replicate 12 0)) (cellsA v (kD ++ List.replicate 12 0)) sp 80 = fin at A5 y1 y2 E9
  have HFIN := Lib.hid hfin
  have Z5 := Lib.hid (i42.trans (congrArg some y1.symm))
  have Z6 : Hid (fin.size = Array.size (ZcK : Array Value)) := y1
  have AL := Lib.hid y2
  clear hfin y1 y2 E9
  go_wp2_with (first | ((with_reducible refine wpList_blk_load (op := ⟨some 39, .load 37 (.tmp 8), _, _, _, _⟩) ?lg2 37 (.tmp 8) ?lo2 ((w.heap.size + 1)) ?lx2 _ A5.out Try.underlying37 ?ld2 Z5.out ?_); (case lg2 => rfl); (case lo2 => rfl); (case lx2 => rfl); (case ld2 => rfl)) | ((with_reducible refine wpList_blk_store (op := ⟨none, .store 37 (.tmp 6) (.tmp 39), _, _, _, _⟩) ?sg3 37 (.tmp 6) (.tmp 39) ?so3 (w.heap.size) fin ?sx3 ?sy3 R5.out Z6.out Z5.out AL.out ?_); (case sg3 => rfl); (case so3 => rfl); (case sx3 => rfl); (case sy3 => rfl)))
  intro W6 hA hF hB
  have K6 := Lib.hid (K5.out.trans (hB _ (Nat.le_refl _)))
  have HA := Lib.hid hA
  clear hA hF hB
  go_wp2
  have hrun := run_blk_load (P := Try.prog) 37 w.heap.size _ HA.out Try.underlying37 rfl Z5.out
  exact bodyPost_ret (results_cell 6 37 w.heap.size _ Try.results12 rfl hrun) rfl ⟨by rw [HFIN.out], K6.out⟩
theorem key_any (n : Int) (v udp : Bool) (w : World) :
    Calls Try.prog 12 #[.int .i64 n, .bool v, .bool udp] w fun e w' => e = .returned (.agg (kcells (if udp then 17 else 6) (cellsA v (kS (n % 1073741824).toNat ++ List.replicate 12 0)) (cellsA v (kD ++ List.replicate 12 0)) (1000 + (n % 1073741824).toNat % 50000) 80)) ∧ Below w.heap.size w w' := by
  have hu : n % 1073741824 = (((n % 1073741824).toNat : Nat) : Int) := by omega
  have hl : (n % 1073741824).toNat < 1073741824 := by omega
  cases udp with
  | true => exact key_udp n v _ _ w hu hl rfl
  | false => exact key_tcp n v _ _ w hu hl rfl
end Go.Proofs.Ythionipmohbnhaa
namespace Go.Proofs.Ythionipmohbnhaa
open Go.RowKit
def dB (m : Nat) : List Nat := [172, 16, 0, 1 + m]
def dcells (A : Array Value) (p : Nat) : Array Value := (A.toList ++ [Value.int .u16 (p : Int)]).toArray
theorem i45 : (Try.prog.info? 28).map (·.size) = some 18 := by kernel_rfl
theorem dcells_size (A : Array Value) (p : Nat) (h : A.size = 17) : (dcells A p).size = 18 := by simp [dcells, h]
theorem dcells_all (A : Array Value) (p : Nat) (h : A.all (·.oneCell') = true) : (dcells A p).all (·.oneCell') = true := by
  rw [Array.all_eq_true_iff_forall_mem] at *
  intro x hx
  simp only [dcells, List.mem_toArray, List.mem_append, Array.mem_toList_iff, List.mem_singleton] at hx
  rcases hx with h' | rfl
  · exact h x h'
  · rfl
theorem dip_fin (m p : Nat) (v : Bool) : setL ((dcells (cellsA false z16) p).setIfInBounds 0 (.bool v)) 1 (nus .u8 (dB m ++ List.replicate 12 0)).toArray.toList = dcells (cellsA v (dB m ++ List.replicate 12 0)) p := by
  kernel_rfl
set_option maxRecDepth 100000 in
set_option maxHeartbeats 2000000 in
theorem dip_at (n : Int) (v : Bool) (p m : Nat) (w : World) (H1 : Hid (n % 1000 = (p : Int) - 8000)) (H2 : Hid (n % 200 = (m : Int))) (hp0 : 8000 ≤ p) (hp : p < 9000) (hm : m < 200) :
    Calls Try.prog 13 #[.int .i64 n, .bool v] w fun e w' => e = .returned (.agg (dcells (cellsA v (dB m ++ List.replicate 12 0)) p)) ∧ Below w.heap.size w w' := by
  have Z45 := Lib.hid (i45.trans (congrArg some (dcells_size (cellsA false z16) p rfl).symm))
  have ZZ : Hid ((dcells (cellsA false z16) p).size = Array.size (ZcD : Array Value)) := dcells_size (cellsA false z16) p rfl
  have AA := Lib.hid (dcells_all (cellsA false z16) p (cellsA_all _ _))
  have NR := Lib.hid ((Blk.new w 28 ZcD).alloc (.cells ZcD 28))
  have NG := Blk.new (w.alloc (.cells ZcD 28)) 28 ZcD
  rw [World.size_alloc] at NG
  have NG := Lib.hid NG
  have K1 := Lib.hid (((Below.refl w.heap.size w).alloc (Nat.le_refl _) (.cells ZcD 28)).alloc (by simp) (.cells ZcD 28))
  obtain ⟨kc, hkc⟩ : ∃ kc, kc = dcells (cellsA false z16) p := ⟨_, rfl⟩
  have hlit : (.agg #[.bool false, .int .u8 0, .int .u8 0, .int .u8 0, .int .u8 0, .int .u8 0, .int .u8 0, .int .u8 0, .int .u8 0, .int .u8 0, .int .u8 0, .int .u8 0, .int .u8 0, .int .u8 0, .int .u8 0, .int .u8 0, .int .u8 0, .int .u16 (p : Int)] : Value) = .agg kc := by rw [hkc]; rfl
  rw [← hkc] at Z45 ZZ AA
  have k0 : kc[0]? = some (.bool false) := by rw [hkc]; rfl
  have HL := Lib.hid hlit
  have HK := Lib.hid hkc
  have e8 : (8000 : Int) + ((p : Int) - 8000) = (p : Int) := by omega
  have E8 := Lib.hid e8
  have ep : IntKind.u16.wrap (p : Int) = (p : Int) := by rw [IntKind.wrap_u16]; omega
  have em : IntKind.u8.wrap (1 + (m : Int)) = 1 + (m : Int) := by rw [IntKind.wrap_u8]; omega
  clear hlit hkc
  go_enter Try.func13, Try.ntmps13
  go_wp2_with fail
  refine (round_any n 1000 _ (by omega) (by omega)).mono ?_
  rintro e w' ⟨rfl, rfl⟩
  rw [H1.out]
  go_wp2_with (((with_reducible refine wpList_blk_store (op := ⟨none, .store 28 (.tmp 5) (.tmp 10), _, _, _, _⟩) ?sg1 28 (.tmp 5) (.tmp 10) ?so1 ((w.heap.size + 1)) kc ?sx1 ?sy1 NG.out ZZ.out Z45.out AA.out ?_); (case sg1 => rfl); (case so1 => rfl); (case sx1 => rfl); (case sy1 => exact HL.out)))
  intro W2 hA hF hB
  have K2 := Lib.hid (K1.out.trans (hB _ (Nat.le_succ _)))
  have R2 := Lib.hid (show Blk W2 w.heap.size 28 ZcD from (hF _ (by omega)).trans NR.out)
  have A3 := Lib.hid (hA.set_ 0 (.bool v))
  have c0 := (hA.cell 0).trans k0
  have f0 := hA.frozen 0
  have hsz : kc.size = 18 := by rw [HK.out]; exact dcells_size _ _ rfl
  have s3 : (kc.setIfInBounds 0 (.bool v)).size = 18 := by simp [hsz]
  have HI1 : Hid ((Try.prog.info? 23).map (·.size) = some (nus .u8 (dB m ++ List.replicate 12 0)).toArray.size) := i16
  have v1 : (nus .u8 (dB m ++ List.replicate 12 0)).toArray.size = 16 := rfl
  have HS1 := Lib.hid (show 1 + (nus .u8 (dB m ++ List.replicate 12 0)).toArray.size ≤ (kc.setIfInBounds 0 (.bool v)).size by rw [s3, v1]; omega)
  clear hA hF hB K1 NR NG k0 hsz s3 v1 E8 e8
  go_wp2_with fail
  refine (round_any n 200 _ (by omega) (by omega)).mono ?_
  rintro e w' ⟨rfl, rfl⟩
  rw [H2.out]
  go_wp2_with (((with_reducible refine wpList_part_store (op := ⟨none, .store 23 (.tmp 20) (.tmp 18), _, _, _, _⟩) ?pg1 23 (.tmp 20) (.tmp 18) ?po1 1 (nus .u8 (dB m ++ List.replicate 12 0)).toArray ?px1 ?py1 A3.out HS1.out HI1.out (nus_all _) ?_); (case pg1 => rfl); (case po1 => rfl); (case px1 => rfl); (case py1 => rfl)))
  intro W5 hA hF hB
  have K5 := Lib.hid ((K2.out.setCell (p := ⟨w.heap.size + 1, 0, none⟩) (Nat.le_succ _) (.bool v)).trans (hB _ (Nat.le_succ _)))
  have R5 := Lib.hid (show Blk W5 w.heap.size 28 ZcD from (hF _ (by omega)).trans (R2.out.far (p := ⟨w.heap.size + 1, 0, none⟩) (by simp) (.bool v)))
  rw [HK.out] at hA
  have hA5 : Blk W5 (w.heap.size + 1) 28 (dcells (cellsA v (dB m ++ List.replicate 12 0)) p) := by
    rw [← dip_fin]
    exact hA
  have y1 := dcells_size (cellsA v (dB m ++ List.replicate 12 0)) p rfl
  have y2 := dcells_all (cellsA v (dB m ++ List.replicate 12 0)) p (cellsA_all _ _)
  have A5 := Lib.hid hA5
  clear hA hA5 hF hB A3 R2 K2 c0 f0 HS1 HI1
  generalize hfin : dcells (cellsA v (dB m ++ List.replicate 12 0)) p = fin at A5 y1 y2
  have HFIN := Lib.hid hfin
  have Z5 := Lib.hid (i45.trans (congrArg some y1.symm))
  have Z6 : Hid (fin.size = Array.size (ZcD : Array Value)) := y1
  have AL := Lib.hid y2
  clear hfin y1 y2
  go_wp2_with (first | ((with_reducible refine wpList_blk_load (op := ⟨some 21, .load 28 (.tmp 5), _, _, _, _⟩) ?lg2 28 (.tmp 5) ?lo2 ((w.heap.size + 1)) ?lx2 _ A5.out Try.underlying28 ?ld2 Z5.out ?_); (case lg2 => rfl); (case lo2 => rfl); (case lx2 => rfl); (case ld2 => rfl)) | ((with_reducible refine wpList_blk_store (op := ⟨none, .store 28 (.tmp 4) (.tmp 21), _, _, _, _⟩) ?sg3 28 (.tmp 4) (.tmp 21) ?so3 (w.heap.size) fin ?sx3 ?sy3 R5.out Z6.out Z5.out AL.out ?_); (case sg3 => rfl); (case so3 => rfl); (case sx3 => rfl); (case sy3 => rfl)))
  intro W6 hA hF hB
  have K6 := Lib.hid (K5.out.trans (hB _ (Nat.le_refl _)))
  have HA := Lib.hid hA
  clear hA hF hB
  go_wp2
  have hrun := run_blk_load (P := Try.prog) 28 w.heap.size _ HA.out Try.underlying28 rfl Z5.out
  exact bodyPost_ret (results_cell 4 28 w.heap.size _ Try.results13 rfl hrun) rfl ⟨by rw [HFIN.out], K6.out⟩
theorem dip_any (n : Int) (v : Bool) (w : World) :
    Calls Try.prog 13 #[.int .i64 n, .bool v] w fun e w' => e = .returned (.agg (dcells (cellsA v (dB (n % 200).toNat ++ List.replicate 12 0)) (8000 + (n % 1000).toNat))) ∧ Below w.heap.size w w' :=
  dip_at n v _ _ w (show n % 1000 = ((8000 + (n % 1000).toNat : Nat) : Int) - 8000 by omega) (show n % 200 = (((n % 200).toNat : Nat) : Int) by omega) (by omega) (by omega) (by omega)
end Go.Proofs.Ythionipmohbnhaa
namespace Go.Proofs.Ythionipmohbnhaa
open Go.RowKit
theorem kcells_src (p : Nat) (S D : Array Value) (sp dp : Nat) : ((kcells p S D sp dp).toList.drop 1).take S.toList.length = S.toList := by
  unfold kcells
  simp
theorem kcells_dst (p : Nat) (S D : Array Value) (sp dp : Nat) (hS : S.size = 17) : ((kcells p S D sp dp).toList.drop 18).take D.toList.length = D.toList := by
  have e : (kcells p S D sp dp).toList.drop 18 = D.toList ++ [Value.int .u16 (sp : Int), Value.int .u16 (dp : Int)] := by
    unfold kcells
    show (S.toList ++ (D.toList ++ [Value.int .u16 (sp : Int), Value.int .u16 (dp : Int)])).drop 17 = _
    have : S.toList.length = 17 := by simpa using hS
    rw [← this, List.drop_left]
  rw [e, List.take_left]
end Go.Proofs.Ythionipmohbnhaa
namespace Go.Proofs.Ythionipmohbnhaa
open Go.RowKit
theorem net_ok (zs : List Nat) (h : (net zs).2.2 = 0) : ((net zs).1 = 14 ∨ (net zs).1 = 18) ∧ (net zs).1 ≤ zs.length ∧ ((net zs).2.1 = 2048 ∨ (net zs).2.1 = 34525) := by
  unfold net netK at h ⊢
  split at h
  · simp at h
  · rename_i h14
    rw [if_neg h14]
    split at h
    · rename_i hv
      rw [if_pos hv]
      split at h
      · simp at h
      · rename_i h18
        rw [if_neg h18]
        split at h
        · rename_i hk
          rw [if_pos hk]
          exact ⟨.inr rfl, Nat.le_of_not_lt h18, hk⟩
        · simp at h
    · rename_i hv
      rw [if_neg hv]
      split at h
      · rename_i hk
        rw [if_pos hk]
        exact ⟨.inl rfl, Nat.le_of_not_lt h14, hk⟩
      · simp at h
def fhd (six : Bool) (T : List Nat) : Array Value := if six then rd6 T else hd T
def fhr (six : Bool) (T : List Nat) : Nat := if six then f6 T else ff T
def fS (six : Bool) (T : List Nat) : Nat := if six then 40 else hs T
def fL (six : Bool) (T : List Nat) : Nat := if six then 40 + u2 T 4 else u2 T 2
def fP (six : Bool) (T : List Nat) : Nat := if six then T.getD 6 0 else T.getD 9 0
def fA (six : Bool) (T : List Nat) : Array Value := if six then srcA T else a4 ((T.drop 12).take 4)
def fB (six : Bool) (T : List Nat) : Array Value := if six then dstA T else a4 ((T.drop 16).take 4)
theorem fA_all (six : Bool) (T : List Nat) : (fA six T).all (·.oneCell') = true := by unfold fA; split; exact cellsA_all _ _; exact a4_all _
theorem fB_all (six : Bool) (T : List Nat) : (fB six T).all (·.oneCell') = true := by unfold fB; split; exact cellsA_all _ _; exact a4_all _
theorem fhd_size (six : Bool) (T : List Nat) : (fhd six T).size = 37 := by
  unfold fhd; split
  · exact rd6_size T
  · unfold hd; split
    · exact hcells_size _ _ _ _ _ (a4_size _ (by simp; omega)) (a4_size _ (by simp; omega))
    · exact h0_size
theorem fhd_all (six : Bool) (T : List Nat) : (fhd six T).all (·.oneCell') = true := by
  unfold fhd; split
  · exact rd6_all T
  · unfold hd; split
    · exact hcells_all _ _ _ _ _ (a4_all _) (a4_all _)
    · exact h0_all
theorem fhr_lt (six : Bool) (T : List Nat) : fhr six T < 7 := by unfold fhr; split; exact f6_lt T; exact ff_lt T
structure Head (six : Bool) (T : List Nat) : Prop where
  hd : fhd six T = hcells (fS six T) (fL six T) (fP six T) (fA six T) (fB six T)
  sA : (fA six T).size = 17
  sB : (fB six T).size = 17
  low : 20 ≤ fS six T
  mid : fS six T ≤ fL six T
  high : fL six T ≤ T.length
  pr : fP six T = 6 ∨ fP six T = 17
theorem fhd_yes (six : Bool) (T : List Nat) (h : fhr six T = 0) : Head six T := by
  cases six with
  | true =>
    have h : f6 T = 0 := h
    obtain ⟨h40, -, hl, hp⟩ := f6_yes T h
    obtain ⟨sS, sD⟩ := ad_size T h40
    refine ⟨?_, sS, sD, ?_, ?_, hl, hp⟩
    · show rd6 T = _
      unfold rd6; rw [if_pos h]; rfl
    · show 20 ≤ 40; omega
    · show 40 ≤ 40 + u2 T 4; omega
  | false =>
    have h : ff T = 0 := h
    obtain ⟨h20, -, hs20, hsl, hl, -, -, hp⟩ := ff_yes T h
    refine ⟨?_, a4_size _ (by simp; omega), a4_size _ (by simp; omega), hs20, hsl, hl, hp⟩
    show hd T = _
    unfold hd; rw [if_pos h]; rfl
def sixF (zs : List Nat) : Bool := decide ((net zs).2.1 ≠ 2048)
def pkt (zs : List Nat) : List Nat := zs.drop (net zs).1
def sgm (zs : List Nat) : List Nat := (zs.drop ((net zs).1 + fS (sixF zs) (pkt zs))).take (fL (sixF zs) (pkt zs) - fS (sixF zs) (pkt zs))
def rr (zs : List Nat) : Nat :=
  if (net zs).2.2 ≠ 0 then (net zs).2.2
  else if fhr (sixF zs) (pkt zs) ≠ 0 then fhr (sixF zs) (pkt zs)
  else fs (fP (sixF zs) (pkt zs)) (sgm zs)
def vcells (six : Bool) (n s e : Nat) (kc : Array Value) (f : Nat) : Array Value := (Value.bool six :: .int .i64 (n : Int) :: .int .i64 (s : Int) :: .int .i64 (e : Int) :: (kc.toList ++ [.int .u8 (f : Int)])).toArray
theorem vcells_size (six : Bool) (n s e : Nat) (kc : Array Value) (f : Nat) (h : kc.size = 37) : (vcells six n s e kc f).size = 42 := by simp [vcells, h]
theorem vcells_all (six : Bool) (n s e : Nat) (kc : Array Value) (f : Nat) (h : kc.all (·.oneCell') = true) : (vcells six n s e kc f).all (·.oneCell') = true := by
  rw [Array.all_eq_true_iff_forall_mem] at *
  intro x hx
  simp only [vcells, List.mem_toArray, List.mem_cons, List.mem_append, Array.mem_toList_iff, List.not_mem_nil, or_false] at hx
  rcases hx with rfl | rfl | rfl | rfl | hx | rfl
  · rfl
  · rfl
  · rfl
  · rfl
  · exact h x hx
  · rfl
def v0 : Array Value := vcells false 0 0 0 (kcells 0 (cellsA false (List.replicate 16 0)) (cellsA false (List.replicate 16 0)) 0 0) 0
theorem v0_size : v0.size = 42 := rfl
theorem v0_all : v0.all (·.oneCell') = true := vcells_all _ _ _ _ _ _ (kcells_all _ _ _ _ _ (cellsA_all _ _) (cellsA_all _ _))
def keyF (zs : List Nat) : Array Value := kcells (fP (sixF zs) (pkt zs)) (fA (sixF zs) (pkt zs)) (fB (sixF zs) (pkt zs)) (u2 (sgm zs) 0) (u2 (sgm zs) 2)
def vw (zs : List Nat) : Array Value :=
  if rr zs = 0 then vcells (sixF zs) (net zs).1 ((net zs).1 + fS (sixF zs) (pkt zs)) ((net zs).1 + fL (sixF zs) (pkt zs)) (keyF zs) (fl (fP (sixF zs) (pkt zs)) (sgm zs))
  else v0
end Go.Proofs.Ythionipmohbnhaa
