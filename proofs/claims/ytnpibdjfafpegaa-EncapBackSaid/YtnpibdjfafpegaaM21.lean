/- Texts that the walks of this seat lean on, put together. -/
import Derived.Deep.DeepCutAuto
import Derived.Test.YtnpibdjfafpegaaTk
import Derived.Test.YtnpibdjfafpegaaM04
import Derived.Test.YtnpibdjfafpegaaM12
import Derived.Test.YtnpibdjfafpegaaM13
import Derived.Test.YtnpibdjfafpegaaM14
namespace Go.Proofs.Ytnpibdjfafpegaa
open Go.RowKit
def rcells (s l p : Nat) (S D : Array Value) : Array Value := (Value.int .i64 (s : Int) :: .int .i64 (l : Int) :: .int .u8 (p : Int) :: (S.toList ++ D.toList)).toArray
theorem rcells_size (s l p : Nat) (S D : Array Value) (hS : S.size = 17) (hD : D.size = 17) : (rcells s l p S D).size = 37 := by simp [rcells, hS, hD]
theorem rcells_all (s l p : Nat) (S D : Array Value) (hS : S.all (·.oneCell') = true) (hD : D.all (·.oneCell') = true) : (rcells s l p S D).all (·.oneCell') = true := by
  rw [Array.all_eq_true_iff_forall_mem] at *
  intro x hx
  simp only [rcells, List.mem_toArray, List.mem_cons, List.mem_append, Array.mem_toList_iff] at hx
  rcases hx with rfl | rfl | rfl | h | h
  · rfl
  · rfl
  · rfl
  · exact hS x h
  · exact hD x h
theorem rcells_src (s l p : Nat) (S D : Array Value) : ((rcells s l p S D).toList.drop 3).take S.toList.length = S.toList := by simp [rcells]
theorem rcells_dst (s l p : Nat) (S D : Array Value) (hS : S.size = 17) : ((rcells s l p S D).toList.drop 20).take D.toList.length = D.toList := by
  have : S.toList.length = 17 := by simpa using hS
  show ((S.toList ++ D.toList).drop 17).take _ = _
  rw [← this, List.drop_left, List.take_length]
theorem rcells_get (s l p : Nat) (S D : Array Value) : (rcells s l p S D)[0]? = some (.int .i64 (s : Int)) ∧ (rcells s l p S D)[1]? = some (.int .i64 (l : Int)) ∧ (rcells s l p S D)[2]? = some (.int .u8 (p : Int)) := ⟨rfl, rfl, rfl⟩
def r0 : Array Value := rcells 0 0 0 z17 z17
theorem r0_size : r0.size = 37 := rfl
theorem r0_all : r0.all (·.oneCell') = true := rcells_all _ _ _ _ _ z17_all z17_all
def rd6 (zs : List Nat) : Array Value := if f6 zs = 0 then rcells 40 (40 + u2 zs 4) (zs.getD 6 0) (srcA zs) (dstA zs) else r0
theorem rd6_size (zs : List Nat) : (rd6 zs).size = 37 := by
  unfold rd6
  split
  · rename_i h
    have := ad_size zs (f6_yes zs h).1
    exact rcells_size _ _ _ _ _ this.1 this.2
  · rfl
theorem rd6_all (zs : List Nat) : (rd6 zs).all (·.oneCell') = true := by
  unfold rd6
  split
  · exact rcells_all _ _ _ _ _ (cellsA_all _ _) (cellsA_all _ _)
  · exact r0_all
theorem i37 : (Try.prog.info? 72).map (·.size) = some 37 := by kernel_rfl
set_option maxRecDepth 100000 in
theorem built_r (s l p : Nat) (S D : Array Value) (hS : S.size = 17) (hD : D.size = 17) : Try.prog.built 72 [(0, .int .i64 (s : Int)), (1, .int .i64 (l : Int)), (2, .int .u8 (p : Int)), (3, .agg S), (4, .agg D)] = some (rcells s l p S D) := by
  obtain ⟨x0, x1, x2, x3, x4, x5, x6, x7, x8, x9, x10, x11, x12, x13, x14, x15, x16, rfl⟩ := arr17 S hS
  obtain ⟨y0, y1, y2, y3, y4, y5, y6, y7, y8, y9, y10, y11, y12, y13, y14, y15, y16, rfl⟩ := arr17 D hD
  kernel_rfl
theorem be16_b (a : Option Addr) (len cap : Nat) (k : Nat) (zs : List Nat) (w : World) (hr : Rd w (.slice a len cap) (nus .u8 zs)) (hb : ∀ c ∈ zs, c < 256) (hk : k + 2 ≤ zs.length) :
    Calls Try.prog 35 #[.slice a len cap, .int .i64 (k : Int)] w fun e w' => e = .returned (.int .i64 (u2 zs k : Nat)) ∧ Below w.heap.size w w' :=
  (be16_any a len cap k zs w hr hb hk).mono fun e w1 hh => ⟨hh.1, by obtain ⟨n, h⟩ := hh.2; rw [h]; exact below_drewN (Below.refl _ _) n⟩
set_option maxRecDepth 100000 in
set_option maxHeartbeats 1000000 in
theorem rsix_short (v : Value) (zs : List Nat) (w : World) (hr : Rd w v (nus .u8 zs)) (h40 : zs.length < 40) :
    Calls Try.prog 37 #[v] w fun e w' => e = .returned (.tuple #[.agg r0, .int .i64 1]) ∧ Below w.heap.size w w' := by
  have K := Lib.hid (Below.refl w.heap.size w)
  obtain ⟨a, cap, rfl, -, hlm⟩ := rd_shape hr
  have Y0 : Hid (r0.size = Array.size (Zc37 : Array Value)) := r0_size
  have Z0 := Lib.hid (i37.trans (congrArg some r0_size.symm))
  have A0 := Lib.hid r0_all
  unfold maxLen at hlm
  generalize zs.length = n at *
  clear hr
  go_enter Try.func37, Try.ntmps37
  have hal := (Below.refl w.heap.size w).alloc (Nat.le_refl _) (.cells Zc37 72)
  replace K := Lib.hid (K.out.trans (hal.mono K.out.size))
  have HH := Lib.hid (Blk.new w 72 Zc37)
  clear hal
  go_wp2_with (((with_reducible refine wpList_blk_store (op := ⟨none, .store 72 (.tmp 2) (.tmp 12), _, _, _, _⟩) ?sg1 72 (.tmp 2) (.tmp 12) ?so1 (w.heap.size) r0 ?sx1 ?sy1 HH.out Y0.out Z0.out A0.out ?_); (case sg1 => rfl); (case so1 => rfl); (case sx1 => rfl); (case sy1 => rfl)))
  intro V1 hA hF hB
  replace K := Lib.hid (K.out.trans (hB _ (by omega)))
  replace HH := Lib.hid hA
  clear hA hF hB
  go_wp2
  have hrun := run_blk_load (P := Try.prog) 72 w.heap.size _ HH.out Try.underlying72 rfl Z0.out
  exact bodyPost_ret (results_cell_tmp 2 72 3 w.heap.size _ Try.results37 rfl hrun) rfl ⟨rfl, K.out⟩
set_option maxRecDepth 100000 in
set_option maxHeartbeats 4000000 in
theorem rsix_long (v : Value) (zs : List Nat) (w : World) (hr : Rd w v (nus .u8 zs)) (hb : ∀ c ∈ zs, c < 256) (h40 : ¬ zs.length < 40) :
    Calls Try.prog 37 #[v] w fun e w' => e = .returned (.tuple #[.agg (rd6 zs), .int .i64 (f6 zs : Nat)]) ∧ Below w.heap.size w w' := by
  have K := Lib.hid (Below.refl w.heap.size w)
  have HR := Lib.hid hr
  obtain ⟨a, cap, rfl, hlc, hlm⟩ := rd_shape hr
  obtain ⟨b, off, rfl, hce⟩ := hr.cells (by omega)
  have C6 := hce 6 (by omega)
  have C0 := hce 0 (by omega)
  have hb0 := rd_cell C6
  rw [Nat.add_zero] at C0
  have c6 := Lib.hid C6
  have c0 := Lib.hid C0
  have HS := Lib.hid (hr.sub 8 16 (by omega))
  have HD := Lib.hid (hr.sub 24 16 (by omega))
  have CB := Lib.hid (fun W (h : Rd W (.slice (some ⟨b, off, none⟩) zs.length cap) (nus .u8 zs)) => be16_b _ _ _ 4 zs W h hb (by omega))
  have l1 : ((zs.drop 8).take 16).length = 16 := by simp; omega
  have l2 : ((zs.drop 24).take 16).length = 16 := by simp; omega
  have C1 := Lib.hid (fun w' z (hw : Rd w' z (nus .u8 ((zs.drop 8).take 16))) => rfrom_ok z true _ w' hw (.inr ⟨l1, rfl⟩))
  have C2 := Lib.hid (fun w' z (hw : Rd w' z (nus .u8 ((zs.drop 24).take 16))) => rfrom_ok z true _ w' hw (.inr ⟨l2, rfl⟩))
  rw [l1, show (zs.drop 8).take 16 ++ List.replicate (16 - 16) 0 = (zs.drop 8).take 16 from by simp, show adr true ((zs.drop 8).take 16) = .agg (srcA zs) from rfl] at C1
  rw [l2, show (zs.drop 24).take 16 ++ List.replicate (16 - 16) 0 = (zs.drop 24).take 16 from by simp, show adr true ((zs.drop 24).take 16) = .agg (dstA zs) from rfl] at C2
  obtain ⟨sS, sD⟩ := ad_size zs (by omega)
  have aS : (srcA zs).all (·.oneCell') = true := cellsA_all _ _
  have aD : (dstA zs).all (·.oneCell') = true := cellsA_all _ _
  have hx := getD_lt zs hb 0
  have hp := getD_lt zs hb 6
  have hl := u2_lt zs 4 hb
  have hh : rd6 zs = if f6 zs = 0 then rcells 40 (40 + u2 zs 4) (zs.getD 6 0) (srcA zs) (dstA zs) else r0 := rfl
  have hf : f6 zs = _ := rfl
  conv at hf => rhs; unfold f6
  rw [if_neg h40] at hf
  have HH0 := Lib.hid hh
  have HF := Lib.hid hf
  clear hh hf
  generalize rd6 zs = HV at *
  generalize f6 zs = F at *
  generalize srcA zs = S at *
  generalize dstA zs = D at *
  generalize u2 zs 4 = l at *
  generalize zs.getD 6 0 = p at *
  generalize zs.getD 0 0 = x at *
  have hbd := built_r 40 (40 + l) p S D sS sD
  have hs := rcells_size 40 (40 + l) p S D sS sD
  have ha := rcells_all 40 (40 + l) p S D aS aD
  have HG := Lib.hid (rcells_get 40 (40 + l) p S D)
  generalize rcells 40 (40 + l) p S D = H at *
  have HBD := Lib.hid hbd
  have HW := Lib.hid (show IntKind.i64.wrap (40 + (l : Int)) = ((40 + l : Nat) : Int) by rw [IntKind.wrap_i64]; omega)
  have YS : Hid (S.size = Array.size (Zc17 : Array Value)) := sS
  have ZS := Lib.hid (i24.trans (congrArg some sS.symm))
  have AS := Lib.hid aS
  have YD : Hid (D.size = Array.size (Zc17 : Array Value)) := sD
  have ZD := Lib.hid (i24.trans (congrArg some sD.symm))
  have AD := Lib.hid aD
  have YH : Hid (H.size = Array.size (Zc37 : Array Value)) := hs
  have ZH := Lib.hid (i37.trans (congrArg some hs.symm))
  have AH := Lib.hid ha
  have YR : Hid (r0.size = Array.size (Zc37 : Array Value)) := r0_size
  have ZR := Lib.hid (i37.trans (congrArg some r0_size.symm))
  have AR := Lib.hid r0_all
  unfold maxLen at hlm
  have h6n : (6 : Int) < (zs.length : Int) := by omega
  clear hr hb hce sS sD aS aD hs ha hbd l1 l2 C6 C0
  generalize zs.length = n at *
  go_enter Try.func37, Try.ntmps37
  have hal := (Below.refl w.heap.size w).alloc (Nat.le_refl _) (.cells Zc37 72)
  replace K := Lib.hid (K.out.trans (hal.mono K.out.size))
  replace HR := Lib.hid (HR.out.below hal)
  replace HS := Lib.hid (HS.out.below hal)
  replace HD := Lib.hid (HD.out.below hal)
  have HH := Lib.hid (Blk.new w 72 Zc37)
  clear hal
  go_wp2_with fail
  generalize (w.alloc (.cells Zc37 72)) = V1 at *
  refine (C1.out _ _ HS.out).mono ?_
  rintro e V2 ⟨rfl, hy⟩
  replace K := Lib.hid (K.out.trans (hy.mono K.out.size))
  replace HR := Lib.hid (HR.out.below hy)
  replace HS := Lib.hid (HS.out.below hy)
  replace HD := Lib.hid (HD.out.below hy)
  replace HH := Lib.hid (HH.out.below hy HH.out.lt)
  clear hy
  go_wp2_with (((with_reducible refine wpList_blk_store (op := ⟨none, .store 27 (.tmp 4) (.tmp 17), _, _, _, _⟩) ?sg2 27 (.tmp 4) (.tmp 17) ?so2 (V2.heap.size) S ?sx2 ?sy2 (Blk.new V2 27 Zc17) YS.out ZS.out AS.out ?_); (case sg2 => rfl); (case so2 => rfl); (case sx2 => rfl); (case sy2 => rfl)))
  have qHHNS : w.heap.size < V2.heap.size := HH.out.lt
  intro V3 hA hF hB
  have hy := ((Below.refl V2.heap.size V2).alloc (Nat.le_refl _) (.cells Zc17 27)).trans (hB _ (Nat.le_refl _))
  replace K := Lib.hid (K.out.trans (hy.mono K.out.size))
  replace HR := Lib.hid (HR.out.below hy)
  replace HS := Lib.hid (HS.out.below hy)
  replace HD := Lib.hid (HD.out.below hy)
  replace HH := Lib.hid (HH.out.below hy HH.out.lt)
  have NS := Lib.hid hA
  clear hA hF hB hy
  go_wp2_with fail
  refine (C2.out _ _ HD.out).mono ?_
  rintro e V4 ⟨rfl, hy⟩
  replace K := Lib.hid (K.out.trans (hy.mono K.out.size))
  replace HR := Lib.hid (HR.out.below hy)
  replace HS := Lib.hid (HS.out.below hy)
  replace HD := Lib.hid (HD.out.below hy)
  replace HH := Lib.hid (HH.out.below hy HH.out.lt)
  replace NS := Lib.hid (NS.out.below hy NS.out.lt)
  clear hy
  go_wp2_with (((with_reducible refine wpList_blk_store (op := ⟨none, .store 27 (.tmp 6) (.tmp 23), _, _, _, _⟩) ?sg3 27 (.tmp 6) (.tmp 23) ?so3 (V4.heap.size) D ?sx3 ?sy3 (Blk.new V4 27 Zc17) YD.out ZD.out AD.out ?_); (case sg3 => rfl); (case so3 => rfl); (case sx3 => rfl); (case sy3 => rfl)))
  have qHHND : w.heap.size < V4.heap.size := HH.out.lt
  have qNSND : V2.heap.size < V4.heap.size := NS.out.lt
  intro V5 hA hF hB
  have hy := ((Below.refl V4.heap.size V4).alloc (Nat.le_refl _) (.cells Zc17 27)).trans (hB _ (Nat.le_refl _))
  replace K := Lib.hid (K.out.trans (hy.mono K.out.size))
  replace HR := Lib.hid (HR.out.below hy)
  replace HS := Lib.hid (HS.out.below hy)
  replace HD := Lib.hid (HD.out.below hy)
  replace HH := Lib.hid (HH.out.below hy HH.out.lt)
  replace NS := Lib.hid (NS.out.below hy NS.out.lt)
  have ND := Lib.hid hA
  clear hA hF hB hy
  go_upto_region 5 with fail
  have hlow : V5.heap.size ≤ V5.heap.size := Nat.le_refl _
  have qHH : w.heap.size < V5.heap.size := HH.out.lt
  have qK := K.out.size
  have qNS := NS.out.lt
  have qND := ND.out.lt
  go_cut [8] (fun v wx => ∃ g, v = .pointer (some ⟨g, 0, none⟩) ∧ Blk wx g 72 H ∧ Blk wx w.heap.size 72 Zc37 ∧ w.heap.size < g ∧ Below w.heap.size w wx)
  case first =>
    refine wp_region_held (S := (fun w' : World => Below (V5.heap.size) V5 w')) (by kernel_rfl) ?_
    change wpAnyH _ _ _ _ _ _ _ _ V5.drew
    have hy : Below V5.heap.size V5 V5.drew := (Below.refl _ _).drew
    have hE0 : Below (V5.heap.size) V5 V5.drew := (Below.refl _ _).drew
    clear hy
    generalize V5.drew = Y5x0 at hE0  ⊢
    have E0 := Lib.hid hE0
    clear hE0
    refine tkA 0 (?_) ?_ E0.out ?_
    rotate_left
    · (intro w1 hS; go_simp; try with_reducible rfl)
    simp only [Act.put, tS1, tS2, tS3]
    refine tkA 3 (?_) ?_ E0.out ?_
    rotate_left
    · (intro w1 hS; go_simp; try with_reducible rfl)
    simp only [Act.put, tS1, tS2, tS3]
    refine tkA 4 (?_) ?_ E0.out ?_
    rotate_left
    · (intro w1 hS; have hW := hS; have q := (K.out.trans (hW.mono K.out.size)).cell (p := ⟨b, off + 6, none⟩) hb0 |>.trans c6.out; clear hW hS; go_simp; try with_reducible rfl)
    simp only [Act.put, tS1, tS2, tS3]
    refine tkA 5 (?_) ?_ E0.out ?_
    rotate_left
    · (intro w1 hS; have hW := hS; have q := (K.out.trans (hW.mono K.out.size)).cell (p := ⟨b, off + 6, none⟩) hb0 |>.trans c6.out; clear hW hS; go_simp; try with_reducible rfl)
    simp only [Act.put, tS1, tS2, tS3]
    refine tkA 6 (.agg S) ?_ E0.out ?_
    · (intro w1 hS; have hW := hS; exact exec_load 27 (.tmp 4) rfl _ rfl _ (run_blk_load (P := Try.prog) 27 (V2.heap.size) _ (NS.out.below hW (by omega)) Try.underlying27 rfl ZS.out))
    simp only [Act.put, tS1, tS2, tS3]
    refine tkA 7 (.agg D) ?_ E0.out ?_
    · (intro w1 hS; have hW := hS; exact exec_load 27 (.tmp 6) rfl _ rfl _ (run_blk_load (P := Try.prog) 27 (V4.heap.size) _ (ND.out.below hW (by omega)) Try.underlying27 rfl ZD.out))
    simp only [Act.put, tS1, tS2, tS3]
    refine wpAnyH_ready (rs := [1, 9]) (by kernel_rfl) (by simp) ?_
    refine AllReadyH.cons (o := { dst := some 26, op := Op.call { callee := Callee.value (Operand.func 35), args := #[Operand.tmp 25, Operand.const (Value.int IntKind.i64 4)], argTypes := #[22, 3] }, type := 3, pos := "frame.go:249", after := #[{ on := 0, ground := Ground.data }], guard := none }) rfl (fun K hK => ?_) ?_
    · go_simp
      refine (CB.out Y5x0 (HR.out.below E0.out)).mono ?_
      rintro e Y5x1 ⟨rfl, hy⟩
      have E1 := Lib.hid (E0.out.trans (hy.mono (Nat.le_trans hlow E0.out.size)))
      have C1 := Lib.hid E1.out
      clear hy E0
      refine hK.out _ _ C1.out (fun _ => ?_)
      clear hK K
      clear C1
      try simp only [Act.put, tS1, tS2, tS3]
      refine tkA 2 (?_) ?_ E1.out ?_
      rotate_left
      · (intro w1 hS; have hW := hS; have q := HW.out; clear hW hS; go_simp; try with_reducible rfl)
      simp only [Act.put, tS1, tS2, tS3]
      refine tkA 8 (.agg H) ?_ E1.out ?_
      · (intro w1 hS; exact exec_build 72 _ rfl #[(0, .int .i64 40), (1, .int .i64 ((40 + l : Nat) : Int)), (2, .int .u8 (p : Int)), (3, .agg S), (4, .agg D)] (by kernel_rfl) H HBD.out)
      simp only [Act.put, tS1, tS2, tS3]
      refine tkO 9 (fun K hK => ?_)
      go_simp
      have NH := Blk.new Y5x1 72 Zc37
      have hy := (Below.refl Y5x1.heap.size Y5x1).alloc (Nat.le_refl _) (.cells Zc37 72)
      have gNH := Nat.le_trans (Nat.le_of_eq rfl) E1.out.size
      generalize Y5x1.alloc (.cells Zc37 72) = Y5x2 at NH hy ⊢
      replace NH := Lib.hid NH
      have E2 := Lib.hid (E1.out.trans (hy.mono (Nat.le_trans hlow E1.out.size)))
      have C2 := Lib.hid E2.out
      clear hy E1
      refine hK.out _ _ C2.out (fun _ => ?_)
      clear hK K
      clear C2
      try simp only [Act.put, tS1, tS2, tS3]
      refine tkO 10 (fun K hK => ?_)
      rw [if_pos (by rfl)]
      refine wp_blk_store 72 (.tmp 8) (.tmp 33) rfl H rfl rfl NH.out YH.out ZH.out AH.out ?_
      intro Y5x3 hA hF hB
      have E3 := Lib.hid (E2.out.trans (hB _ gNH))
      replace NH := Lib.hid hA
      clear hA hF hB E2
      refine hK.out _ _ E3.out (fun _ => ?_)
      clear hK K
      try simp only [Act.put]
      refine wpAnyH_done (by kernel_rfl) ?_ _
      go_wp2
      go_meet
      exact ⟨_, rfl, NH.out, HH.out.below E3.out HH.out.lt, Nat.lt_of_lt_of_le HH.out.lt gNH, K.out.trans (E3.out.mono K.out.size)⟩
    refine AllReadyH.cons (o := { dst := some 8, op := Op.alloc 72, type := 0, pos := "frame.go:249", after := #[], guard := none }) rfl (fun K hK => ?_) AllReadyH.nil
    go_simp
    have NH := Blk.new Y5x0 72 Zc37
    have hy := (Below.refl Y5x0.heap.size Y5x0).alloc (Nat.le_refl _) (.cells Zc37 72)
    have gNH := Nat.le_trans (Nat.le_of_eq rfl) E0.out.size
    generalize Y5x0.alloc (.cells Zc37 72) = Y5x1 at NH hy ⊢
    replace NH := Lib.hid NH
    have E1 := Lib.hid (E0.out.trans (hy.mono (Nat.le_trans hlow E0.out.size)))
    have C1 := Lib.hid E1.out
    clear hy E0
    refine hK.out _ _ C1.out (fun _ => ?_)
    clear hK K
    clear C1
    try simp only [Act.put, tS1, tS2, tS3]
    refine tkO 1 (fun K hK => ?_)
    go_simp
    refine (CB.out Y5x1 (HR.out.below E1.out)).mono ?_
    rintro e Y5x2 ⟨rfl, hy⟩
    replace NH := Lib.hid (NH.out.below hy NH.out.lt)
    have E2 := Lib.hid (E1.out.trans (hy.mono (Nat.le_trans hlow E1.out.size)))
    have C2 := Lib.hid E2.out
    clear hy E1
    refine hK.out _ _ C2.out (fun _ => ?_)
    clear hK K
    clear C2
    try simp only [Act.put, tS1, tS2, tS3]
    refine tkA 2 (?_) ?_ E2.out ?_
    rotate_left
    · (intro w1 hS; have hW := hS; have q := HW.out; clear hW hS; go_simp; try with_reducible rfl)
    simp only [Act.put, tS1, tS2, tS3]
    refine tkA 8 (.agg H) ?_ E2.out ?_
    · (intro w1 hS; exact exec_build 72 _ rfl #[(0, .int .i64 40), (1, .int .i64 ((40 + l : Nat) : Int)), (2, .int .u8 (p : Int)), (3, .agg S), (4, .agg D)] (by kernel_rfl) H HBD.out)
    simp only [Act.put, tS1, tS2, tS3]
    refine tkO 10 (fun K hK => ?_)
    rw [if_pos (by rfl)]
    refine wp_blk_store 72 (.tmp 8) (.tmp 33) rfl H rfl rfl NH.out YH.out ZH.out AH.out ?_
    intro Y5x3 hA hF hB
    have E3 := Lib.hid (E2.out.trans (hB _ gNH))
    replace NH := Lib.hid hA
    clear hA hF hB E2
    refine hK.out _ _ E3.out (fun _ => ?_)
    clear hK K
    try simp only [Act.put]
    refine wpAnyH_done (by kernel_rfl) ?_ _
    go_wp2
    go_meet
    exact ⟨_, rfl, NH.out, HH.out.below E3.out HH.out.lt, Nat.lt_of_lt_of_le HH.out.lt gNH, K.out.trans (E3.out.mono K.out.size)⟩
  case rest =>
    obtain ⟨g, rfl, hG, hN, hgl, hK⟩ := hcut
    have G := Lib.hid hG
    have e1 := (hG.cell 1).trans HG.out.2.1
    have e2 := (hG.cell 2).trans HG.out.2.2
    have c0 := (hK.cell (p := ⟨b, off, none⟩) hb0).trans c0.out
    clear HH
    have HH := Lib.hid hN
    clear K
    have K := Lib.hid hK
    clear hG hN hK HR HS HD C1 C2 CB NS ND HBD HG
    have h0n : 0 < n := by omega
    by_cases h6 : x / 16 = 6
    case neg =>
      have hf : F = 3 := by rw [HF.out, if_pos h6]
      have g4 : ((x : Int) / 16 != 6) = true := by rw [bne_iff_ne]; omega
      clear h6
      have hh : HV = r0 := by rw [HH0.out, if_neg (by omega)]
      subst hf hh
      go_wp2_with (((with_reducible refine wpList_blk_store (op := ⟨none, .store 72 (.tmp 2) (.tmp 40), _, _, _, _⟩) ?sg4 72 (.tmp 2) (.tmp 40) ?so4 (w.heap.size) r0 ?sx4 ?sy4 HH.out YR.out ZR.out AR.out ?_); (case sg4 => rfl); (case so4 => rfl); (case sx4 => rfl); (case sy4 => rfl)))
      intro V91 hA hF hB
      replace K := Lib.hid (K.out.trans (hB _ (by omega)))
      replace HH := Lib.hid hA
      clear hA hF hB
      go_wp2
      have hrun := run_blk_load (P := Try.prog) 72 w.heap.size _ HH.out Try.underlying72 rfl ZR.out
      exact bodyPost_ret (results_cell_tmp 2 72 3 w.heap.size _ Try.results37 rfl hrun) rfl ⟨rfl, K.out⟩
    have g4 : ((x : Int) / 16 != 6) = false := by rw [bne_eq_false_iff_eq]; omega
    rw [if_neg (by omega)] at HF
    clear h6
    by_cases hnl : n < 40 + l
    · have hf : F = 1 := by rw [HF.out, if_pos hnl]
      have gl : decide ((n : Int) < 40 + (l : Int)) = true := decide_eq_true (by omega)
      have hh : HV = r0 := by rw [HH0.out, if_neg (by omega)]
      subst hf hh
      go_wp2_with (((with_reducible refine wpList_blk_store (op := ⟨none, .store 72 (.tmp 2) (.tmp 47), _, _, _, _⟩) ?sg5 72 (.tmp 2) (.tmp 47) ?so5 (w.heap.size) r0 ?sx5 ?sy5 HH.out YR.out ZR.out AR.out ?_); (case sg5 => rfl); (case so5 => rfl); (case sx5 => rfl); (case sy5 => rfl)))
      intro V91 hA hF hB
      replace K := Lib.hid (K.out.trans (hB _ (by omega)))
      replace HH := Lib.hid hA
      clear hA hF hB
      go_wp2
      have hrun := run_blk_load (P := Try.prog) 72 w.heap.size _ HH.out Try.underlying72 rfl ZR.out
      exact bodyPost_ret (results_cell_tmp 2 72 3 w.heap.size _ Try.results37 rfl hrun) rfl ⟨rfl, K.out⟩
    have gl : decide ((n : Int) < 40 + (l : Int)) = false := decide_eq_false (by omega)
    rw [if_neg hnl] at HF
    by_cases hp44 : p = 44
    · have hf : F = 5 := by rw [HF.out, if_pos hp44]
      have hh : HV = r0 := by rw [HH0.out, if_neg (by omega)]
      subst hf hp44 hh
      go_wp2_with (((with_reducible refine wpList_blk_store (op := ⟨none, .store 72 (.tmp 2) (.tmp 52), _, _, _, _⟩) ?sg6 72 (.tmp 2) (.tmp 52) ?so6 (w.heap.size) r0 ?sx6 ?sy6 HH.out YR.out ZR.out AR.out ?_); (case sg6 => rfl); (case so6 => rfl); (case sx6 => rfl); (case sy6 => rfl)))
      intro V91 hA hF hB
      replace K := Lib.hid (K.out.trans (hB _ (by omega)))
      replace HH := Lib.hid hA
      clear hA hF hB
      go_wp2
      have hrun := run_blk_load (P := Try.prog) 72 w.heap.size _ HH.out Try.underlying72 rfl ZR.out
      exact bodyPost_ret (results_cell_tmp 2 72 3 w.heap.size _ Try.results37 rfl hrun) rfl ⟨rfl, K.out⟩
    rw [if_neg hp44] at HF
    have g44 : ((p : Int) == 44) = false := by rw [beq_eq_false_iff_ne]; omega
    by_cases hpp : p = 6 ∨ p = 17
    case neg =>
      have hf : F = 6 := by rw [HF.out, if_pos (by omega)]
      have hh : HV = r0 := by rw [HH0.out, if_neg (by omega)]
      have g6 : ((p : Int) != 6) = true := by rw [bne_iff_ne]; omega
      have g17 : ((p : Int) != 17) = true := by rw [bne_iff_ne]; omega
      clear hpp hp44
      subst hf hh
      go_wp2_with (((with_reducible refine wpList_blk_store (op := ⟨none, .store 72 (.tmp 2) (.tmp 62), _, _, _, _⟩) ?sg7 72 (.tmp 2) (.tmp 62) ?so7 (w.heap.size) r0 ?sx7 ?sy7 HH.out YR.out ZR.out AR.out ?_); (case sg7 => rfl); (case so7 => rfl); (case sx7 => rfl); (case sy7 => rfl)))
      intro V91 hA hF hB
      replace K := Lib.hid (K.out.trans (hB _ (by omega)))
      replace HH := Lib.hid hA
      clear hA hF hB
      go_wp2
      have hrun := run_blk_load (P := Try.prog) 72 w.heap.size _ HH.out Try.underlying72 rfl ZR.out
      exact bodyPost_ret (results_cell_tmp 2 72 3 w.heap.size _ Try.results37 rfl hrun) rfl ⟨rfl, K.out⟩
    have hf : F = 0 := by rw [HF.out, if_neg (by omega)]
    have hh : HV = H := by rw [HH0.out, if_pos hf]
    clear hp44
    subst hf hh
    rcases hpp with rfl | rfl
    all_goals
      have L8 : (loadVar 72 ⟨g, 0, none⟩).run Try.prog wc = .ok (.agg HV) wc := run_blk_load (P := Try.prog) 72 (g) _ G.out Try.underlying72 rfl ZH.out
      replace L8 := Lib.hid L8
      go_wp2_with (first | ((with_reducible refine wpList_load_want (op := ⟨some 63, .load 72 (.tmp 8), _, _, _, _⟩) ?wg8 72 (.tmp 8) ?wo8 ⟨g, 0, none⟩ ?wx8 (.agg HV) L8.out ?_); (case wg8 => rfl); (case wo8 => rfl); (case wx8 => rfl)) | ((with_reducible refine wpList_blk_store (op := ⟨none, .store 72 (.tmp 2) (.tmp 63), _, _, _, _⟩) ?sg9 72 (.tmp 2) (.tmp 63) ?so9 (w.heap.size) HV ?sx9 ?sy9 HH.out YH.out ZH.out AH.out ?_); (case sg9 => rfl); (case so9 => rfl); (case sx9 => rfl); (case sy9 => rfl)))
      clear L8
      intro V91 hA hF hB
      replace K := Lib.hid (K.out.trans (hB _ (by omega)))
      replace G := Lib.hid ((hF _ (by omega)).trans G.out)
      replace HH := Lib.hid hA
      clear hA hF hB
      go_wp2
      have hrun := run_blk_load (P := Try.prog) 72 w.heap.size _ HH.out Try.underlying72 rfl ZH.out
      exact bodyPost_ret (results_cell_tmp 2 72 3 w.heap.size _ Try.results37 rfl hrun) rfl ⟨rfl, K.out⟩
theorem rsix_any (v : Value) (zs : List Nat) (w : World) (hr : Rd w v (nus .u8 zs)) (hb : ∀ c ∈ zs, c < 256) :
    Calls Try.prog 37 #[v] w fun e w' => e = .returned (.tuple #[.agg (rd6 zs), .int .i64 (f6 zs : Nat)]) ∧ Below w.heap.size w w' := by
  by_cases h : zs.length < 40
  · have h1 : f6 zs = 1 := by unfold f6; rw [if_pos h]
    have e : rd6 zs = r0 := by unfold rd6; rw [if_neg (by omega)]
    rw [e, h1]
    exact rsix_short v zs w hr h
  · exact rsix_long v zs w hr hb h
end Go.Proofs.Ytnpibdjfafpegaa
