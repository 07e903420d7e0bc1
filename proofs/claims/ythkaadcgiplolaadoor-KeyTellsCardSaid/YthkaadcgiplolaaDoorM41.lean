/- Texts that the walks of this seat lean on, put together. -/
import Derived.Test.YthkaadcgiplolaaDoorTk
import Derived.Test.YthkaadcgiplolaaDoorM27
import Derived.Test.YthkaadcgiplolaaDoorM36
import Derived.Test.YthkaadcgiplolaaDoorM37
namespace Go.Proofs.YthkaadcgiplolaaDoor
open Go.RowKit
set_option maxRecDepth 100000 in
theorem key_built (p : Nat) (S D : Array Value) (sp dp : Nat) (h : S.size = 17) (hD : D.size = 17) : Tryd.prog.built 27 #[(0, .int .u8 (p : Int)), (1, .agg S), (2, .agg D), (3, .int .u16 (sp : Int)), (4, .int .u16 (dp : Int))].toList = some (kcells p S D sp dp) := by
  obtain ⟨x0, x1, x2, x3, x4, x5, x6, x7, x8, x9, x10, x11, x12, x13, x14, x15, x16, rfl⟩ := cells17 S h
  obtain ⟨y0, y1, y2, y3, y4, y5, y6, y7, y8, y9, y10, y11, y12, y13, y14, y15, y16, rfl⟩ := cells17 D hD
  kernel_rfl
set_option maxRecDepth 100000 in
set_option maxHeartbeats 4000000 in
theorem rfrom_short (x : Value) (zs : List Nat) (w : World) (h : Rd w x (nus .u8 zs)) (h1 : zs.length < 2) :
    Calls Tryd.prog 10 #[x] w fun e w' => e = .returned (.tuple #[.agg k0.cs, .bool false]) ∧ Below w.heap.size w w' := by
  have K := Lib.hid (Below.refl w.heap.size w)
  have HR := Lib.hid h
  obtain ⟨a, cap, rfl, hlc, hlm⟩ := rd_shape h
  have sz0 : k0.cs.size = 37 := k0.cs_size k0_fit
  have Y0 : Hid (k0.cs.size = Array.size (ZcK : Array Value)) := sz0
  have Q0 := Lib.hid (i42.trans (congrArg some sz0.symm))
  have A0 := Lib.hid k0.cs_all
  have g1 : decide ((zs.length : Int) < 2) = true := decide_eq_true (by omega)
  generalize zs.length = n at *
  clear h h1 sz0 hlc hlm
  go_enter Tryd.func10, Tryd.ntmps10
  have hal := (Below.refl w.heap.size w).alloc (Nat.le_refl _) (.cells ZcK 27)
  replace K := Lib.hid (K.out.trans (hal.mono K.out.size))
  have HT := Lib.hid (Blk.new w 27 ZcK)
  clear hal
  go_wp2_with (((with_reducible refine wpList_blk_store (op := ⟨none, .store 27 (.tmp 2) (.tmp 24), _, _, _, _⟩) ?sg1 27 (.tmp 2) (.tmp 24) ?so1 (w.heap.size) k0.cs ?sx1 ?sy1 HT.out Y0.out Q0.out A0.out ?_); (case sg1 => rfl); (case so1 => rfl); (case sx1 => rfl); (case sy1 => rfl)))
  intro V1 hA hF hB
  replace K := Lib.hid (K.out.trans (hB _ (by omega)))
  replace HT := Lib.hid hA
  clear hA hF hB
  go_wp2
  have hrun := run_blk_load (P := Tryd.prog) 27 w.heap.size _ HT.out Tryd.underlying27 rfl Q0.out
  exact bodyPost_ret (results_cell_tmp 2 27 3 w.heap.size _ Tryd.results10 rfl hrun) rfl ⟨rfl, K.out⟩
set_option maxRecDepth 100000 in
set_option maxHeartbeats 4000000 in
theorem rfrom_kind (x : Value) (zs : List Nat) (w : World) (h : Rd w x (nus .u8 zs)) (h1 : 2 ≤ zs.length) (h4 : zs.getD 1 0 ≠ 4) (h6 : zs.getD 1 0 ≠ 6) :
    Calls Tryd.prog 10 #[x] w fun e w' => e = .returned (.tuple #[.agg k0.cs, .bool false]) ∧ Below w.heap.size w w' := by
  have K := Lib.hid (Below.refl w.heap.size w)
  have HR := Lib.hid h
  obtain ⟨a, cap, rfl, hlc, hlm⟩ := rd_shape h
  have sz0 : k0.cs.size = 37 := k0.cs_size k0_fit
  have Y0 : Hid (k0.cs.size = Array.size (ZcK : Array Value)) := sz0
  have Q0 := Lib.hid (i42.trans (congrArg some sz0.symm))
  have A0 := Lib.hid k0.cs_all
  obtain ⟨bb, off, rfl, hc⟩ := h.cells (by omega)
  have HC1 := Lib.hid (hc 1 (by omega))
  have hbl := rd_cell (n := 1) (hc 1 (by omega))
  have g1 : decide ((zs.length : Int) < 2) = false := decide_eq_false (by omega)
  generalize zs.getD 1 0 = y at *
  generalize zs.length = n at *
  have g4 : ((y : Int) != 4) = true := by rw [bne_iff_ne]; omega
  have g6 : ((y : Int) != 6) = true := by rw [bne_iff_ne]; omega
  clear h sz0 hlc hlm h4 h6 hc
  go_enter Tryd.func10, Tryd.ntmps10
  have hal := (Below.refl w.heap.size w).alloc (Nat.le_refl _) (.cells ZcK 27)
  replace K := Lib.hid (K.out.trans (hal.mono K.out.size))
  have HT := Lib.hid (Blk.new w 27 ZcK)
  clear hal
  have hc1 := (K.out.cell (p := ⟨bb, off + 1, none⟩) hbl).trans HC1.out
  go_wp2_with (((with_reducible refine wpList_blk_store (op := ⟨none, .store 27 (.tmp 2) (.tmp 24), _, _, _, _⟩) ?sg2 27 (.tmp 2) (.tmp 24) ?so2 (w.heap.size) k0.cs ?sx2 ?sy2 HT.out Y0.out Q0.out A0.out ?_); (case sg2 => rfl); (case so2 => rfl); (case sx2 => rfl); (case sy2 => rfl)))
  intro V1 hA hF hB
  replace K := Lib.hid (K.out.trans (hB _ (by omega)))
  replace HT := Lib.hid hA
  clear hA hF hB
  go_wp2
  have hrun := run_blk_load (P := Tryd.prog) 27 w.heap.size _ HT.out Tryd.underlying27 rfl Q0.out
  exact bodyPost_ret (results_cell_tmp 2 27 3 w.heap.size _ Tryd.results10 rfl hrun) rfl ⟨rfl, K.out⟩
set_option maxRecDepth 100000 in
set_option maxHeartbeats 4000000 in
theorem rfrom_len4 (x : Value) (zs : List Nat) (w : World) (h : Rd w x (nus .u8 zs)) (h1 : 2 ≤ zs.length) (h4 : zs.getD 1 0 = 4) (hl : zs.length ≠ 14) :
    Calls Tryd.prog 10 #[x] w fun e w' => e = .returned (.tuple #[.agg k0.cs, .bool false]) ∧ Below w.heap.size w w' := by
  have K := Lib.hid (Below.refl w.heap.size w)
  have HR := Lib.hid h
  obtain ⟨a, cap, rfl, hlc, hlm⟩ := rd_shape h
  have sz0 : k0.cs.size = 37 := k0.cs_size k0_fit
  have Y0 : Hid (k0.cs.size = Array.size (ZcK : Array Value)) := sz0
  have Q0 := Lib.hid (i42.trans (congrArg some sz0.symm))
  have A0 := Lib.hid k0.cs_all
  obtain ⟨bb, off, rfl, hc⟩ := h.cells (by omega)
  have HC1 := Lib.hid (hc 1 (by omega))
  have hbl := rd_cell (n := 1) (hc 1 (by omega))
  rw [h4] at HC1
  have g1 : decide ((zs.length : Int) < 2) = false := decide_eq_false (by omega)
  generalize zs.length = n at *
  have g2 : ((n : Int) != 14) = true := by rw [bne_iff_ne]; omega
  clear h sz0 hlc hlm h4 hc hl
  go_enter Tryd.func10, Tryd.ntmps10
  have hal := (Below.refl w.heap.size w).alloc (Nat.le_refl _) (.cells ZcK 27)
  replace K := Lib.hid (K.out.trans (hal.mono K.out.size))
  have HT := Lib.hid (Blk.new w 27 ZcK)
  clear hal
  have hc1 := (K.out.cell (p := ⟨bb, off + 1, none⟩) hbl).trans HC1.out
  go_wp2_with (((with_reducible refine wpList_blk_store (op := ⟨none, .store 27 (.tmp 2) (.tmp 47), _, _, _, _⟩) ?sg3 27 (.tmp 2) (.tmp 47) ?so3 (w.heap.size) k0.cs ?sx3 ?sy3 HT.out Y0.out Q0.out A0.out ?_); (case sg3 => rfl); (case so3 => rfl); (case sx3 => rfl); (case sy3 => rfl)))
  intro V1 hA hF hB
  replace K := Lib.hid (K.out.trans (hB _ (by omega)))
  replace HT := Lib.hid hA
  clear hA hF hB
  go_wp2
  have hrun := run_blk_load (P := Tryd.prog) 27 w.heap.size _ HT.out Tryd.underlying27 rfl Q0.out
  exact bodyPost_ret (results_cell_tmp 2 27 3 w.heap.size _ Tryd.results10 rfl hrun) rfl ⟨rfl, K.out⟩
set_option maxRecDepth 100000 in
set_option maxHeartbeats 4000000 in
theorem rfrom_len6 (x : Value) (zs : List Nat) (w : World) (h : Rd w x (nus .u8 zs)) (h1 : 2 ≤ zs.length) (h4 : zs.getD 1 0 = 6) (hl : zs.length ≠ 38) :
    Calls Tryd.prog 10 #[x] w fun e w' => e = .returned (.tuple #[.agg k0.cs, .bool false]) ∧ Below w.heap.size w w' := by
  have K := Lib.hid (Below.refl w.heap.size w)
  have HR := Lib.hid h
  obtain ⟨a, cap, rfl, hlc, hlm⟩ := rd_shape h
  have sz0 : k0.cs.size = 37 := k0.cs_size k0_fit
  have Y0 : Hid (k0.cs.size = Array.size (ZcK : Array Value)) := sz0
  have Q0 := Lib.hid (i42.trans (congrArg some sz0.symm))
  have A0 := Lib.hid k0.cs_all
  obtain ⟨bb, off, rfl, hc⟩ := h.cells (by omega)
  have HC1 := Lib.hid (hc 1 (by omega))
  have hbl := rd_cell (n := 1) (hc 1 (by omega))
  rw [h4] at HC1
  have g1 : decide ((zs.length : Int) < 2) = false := decide_eq_false (by omega)
  generalize zs.length = n at *
  have g2 : ((n : Int) != 38) = true := by rw [bne_iff_ne]; omega
  clear h sz0 hlc hlm h4 hc hl
  go_enter Tryd.func10, Tryd.ntmps10
  have hal := (Below.refl w.heap.size w).alloc (Nat.le_refl _) (.cells ZcK 27)
  replace K := Lib.hid (K.out.trans (hal.mono K.out.size))
  have HT := Lib.hid (Blk.new w 27 ZcK)
  clear hal
  have hc1 := (K.out.cell (p := ⟨bb, off + 1, none⟩) hbl).trans HC1.out
  go_wp2_with (((with_reducible refine wpList_blk_store (op := ⟨none, .store 27 (.tmp 2) (.tmp 47), _, _, _, _⟩) ?sg4 27 (.tmp 2) (.tmp 47) ?so4 (w.heap.size) k0.cs ?sx4 ?sy4 HT.out Y0.out Q0.out A0.out ?_); (case sg4 => rfl); (case so4 => rfl); (case sx4 => rfl); (case sy4 => rfl)))
  intro V1 hA hF hB
  replace K := Lib.hid (K.out.trans (hB _ (by omega)))
  replace HT := Lib.hid hA
  clear hA hF hB
  go_wp2
  have hrun := run_blk_load (P := Tryd.prog) 27 w.heap.size _ HT.out Tryd.underlying27 rfl Q0.out
  exact bodyPost_ret (results_cell_tmp 2 27 3 w.heap.size _ Tryd.results10 rfl hrun) rfl ⟨rfl, K.out⟩
set_option maxRecDepth 100000 in
set_option maxHeartbeats 4000000 in
theorem rfrom_p4 (x : Value) (zs : List Nat) (w : World) (h : Rd w x (nus .u8 zs)) (h4 : zs.getD 1 0 = 4) (hl : zs.length = 14) (hp : zs.getD 0 0 ≠ 6 ∧ zs.getD 0 0 ≠ 17) :
    Calls Tryd.prog 10 #[x] w fun e w' => e = .returned (.tuple #[.agg k0.cs, .bool false]) ∧ Below w.heap.size w w' := by
  have K := Lib.hid (Below.refl w.heap.size w)
  have HR := Lib.hid h
  obtain ⟨a, cap, rfl, hlc, hlm⟩ := rd_shape h
  have sz0 : k0.cs.size = 37 := k0.cs_size k0_fit
  have Y0 : Hid (k0.cs.size = Array.size (ZcK : Array Value)) := sz0
  have Q0 := Lib.hid (i42.trans (congrArg some sz0.symm))
  have A0 := Lib.hid k0.cs_all
  obtain ⟨bb, off, rfl, hc⟩ := h.cells (by omega)
  have HC1 := Lib.hid (hc 1 (by omega))
  have hbl := rd_cell (n := 1) (hc 1 (by omega))
  have HC0 := Lib.hid (hc 0 (by omega))
  rw [Nat.add_zero] at HC0
  rw [h4] at HC1
  rw [hl] at *
  generalize zs.getD 0 0 = p at *
  have e6 : ((p : Int) != 6) = true := by rw [bne_iff_ne]; omega
  have e17 : ((p : Int) != 17) = true := by rw [bne_iff_ne]; omega
  clear h sz0 hlc hlm h4 hc hl hp
  go_enter Tryd.func10, Tryd.ntmps10
  have hal := (Below.refl w.heap.size w).alloc (Nat.le_refl _) (.cells ZcK 27)
  replace K := Lib.hid (K.out.trans (hal.mono K.out.size))
  have HT := Lib.hid (Blk.new w 27 ZcK)
  clear hal
  have hc1 := (K.out.cell (p := ⟨bb, off + 1, none⟩) hbl).trans HC1.out
  have hc0 := (K.out.cell (p := ⟨bb, off, none⟩) hbl).trans HC0.out
  go_wp2_with (((with_reducible refine wpList_blk_store (op := ⟨none, .store 27 (.tmp 2) (.tmp 47), _, _, _, _⟩) ?sg5 27 (.tmp 2) (.tmp 47) ?so5 (w.heap.size) k0.cs ?sx5 ?sy5 HT.out Y0.out Q0.out A0.out ?_); (case sg5 => rfl); (case so5 => rfl); (case sx5 => rfl); (case sy5 => rfl)))
  intro V1 hA hF hB
  replace K := Lib.hid (K.out.trans (hB _ (by omega)))
  replace HT := Lib.hid hA
  clear hA hF hB
  go_wp2
  have hrun := run_blk_load (P := Tryd.prog) 27 w.heap.size _ HT.out Tryd.underlying27 rfl Q0.out
  exact bodyPost_ret (results_cell_tmp 2 27 3 w.heap.size _ Tryd.results10 rfl hrun) rfl ⟨rfl, K.out⟩
set_option maxRecDepth 100000 in
set_option maxHeartbeats 4000000 in
theorem rfrom_y4_6 (x : Value) (zs : List Nat) (w : World) (h : Rd w x (nus .u8 zs)) (hb : ∀ c ∈ zs, c < 256) (h4 : zs.getD 1 0 = 4) (hl : zs.length = 14) (hp : zs.getD 0 0 = 6) :
    Calls Tryd.prog 10 #[x] w fun e w' => e = .returned (.tuple #[.agg (fF zs).cs, .bool true]) ∧ Below w.heap.size w w' := by
  have K := Lib.hid (Below.refl w.heap.size w)
  have HR := Lib.hid h
  obtain ⟨a, cap, rfl, hlc, hlm⟩ := rd_shape h
  have sz0 : k0.cs.size = 37 := k0.cs_size k0_fit
  have Y0 : Hid (k0.cs.size = Array.size (ZcK : Array Value)) := sz0
  have Q0 := Lib.hid (i42.trans (congrArg some sz0.symm))
  have A0 := Lib.hid k0.cs_all
  obtain ⟨bb, off, rfl, hc⟩ := h.cells (by omega)
  have HC1 := Lib.hid (hc 1 (by omega))
  have hbl := rd_cell (n := 1) (hc 1 (by omega))
  have HC0 := Lib.hid (hc 0 (by omega))
  rw [Nat.add_zero] at HC0
  rw [h4] at HC1
  have hv6 : v6F zs = false := by unfold v6F; rw [h4]; rfl
  have lS : ((zs.drop 2).take 4).length = 4 := by rw [List.length_take, List.length_drop, hl]; rfl
  have lD : ((zs.drop 6).take 4).length = 4 := by rw [List.length_take, List.length_drop, hl]; rfl
  have CF1 := Lib.hid (fun W z (h : Rd W z (nus .u8 ((zs.drop 2).take 4))) => rfrom_ok z false ((zs.drop 2).take 4) W h (.inl ⟨lS, rfl⟩))
  have CF2 := Lib.hid (fun W z (h : Rd W z (nus .u8 ((zs.drop 6).take 4))) => rfrom_ok z false ((zs.drop 6).take 4) W h (.inl ⟨lD, rfl⟩))
  rw [lS] at CF1
  rw [lD] at CF2
  have b1 := be_take_lt zs 10 2 hb (by omega)
  have b2 := be_take_lt zs 12 2 hb (by omega)
  have CB1 := Lib.hid (show ∀ W a c, Rd W (.slice a 14 c) (nus .u8 zs) → Calls Tryd.prog 27 #[.slice a 14 c, .int .i64 10] W fun e w' => e = .returned (.int .i64 (be ((zs.drop 10).take 2) : Nat)) ∧ Below W.heap.size W w' from fun W a c h => (be16_any a 14 c 10 zs W h hb (by omega)).mono fun e w' ⟨q1, m, q2⟩ => ⟨by rw [be_two zs 10 (by omega)]; exact q1, q2 ▸ below_drewN (Below.refl _ _) m⟩)
  have CB2 := Lib.hid (show ∀ W a c, Rd W (.slice a 14 c) (nus .u8 zs) → Calls Tryd.prog 27 #[.slice a 14 c, .int .i64 12] W fun e w' => e = .returned (.int .i64 (be ((zs.drop 12).take 2) : Nat)) ∧ Below W.heap.size W w' from fun W a c h => (be16_any a 14 c 12 zs W h hb (by omega)).mono fun e w' ⟨q1, m, q2⟩ => ⟨by rw [be_two zs 12 (by omega)]; exact q1, q2 ▸ below_drewN (Below.refl _ _) m⟩)
  have hcs : (fF zs).cs = kcells (zs.getD 0 0) (cellsA false ((zs.drop 2).take 4 ++ List.replicate (16 - 4) 0)) (cellsA false ((zs.drop 6).take 4 ++ List.replicate (16 - 4) 0)) (be ((zs.drop 10).take 2)) (be ((zs.drop 12).take 2)) := by
    unfold Fl.cs fF
    rw [hv6]
    rfl
  rw [hcs]
  have sS : (cellsA false ((zs.drop 2).take 4 ++ List.replicate (16 - 4) 0)).size = 17 := by rw [cellsA_size, List.length_append, lS, List.length_replicate]
  have sD : (cellsA false ((zs.drop 6).take 4 ++ List.replicate (16 - 4) 0)).size = 17 := by rw [cellsA_size, List.length_append, lD, List.length_replicate]
  have aS := cellsA_all false ((zs.drop 2).take 4 ++ List.replicate (16 - 4) 0)
  have aD := cellsA_all false ((zs.drop 6).take 4 ++ List.replicate (16 - 4) 0)
  unfold adr at CF1 CF2
  have R1 := Lib.hid (HR.out.sub 2 4 (by omega))
  have R2 := Lib.hid (HR.out.sub 6 4 (by omega))
  have h2 : (cap = 2) = False := eq_false (by omega)
  have h3 : (cap = 6) = False := eq_false (by omega)
  have q1 : ((6 : Nat) : Int) ≤ (cap : Int) := by omega
  have q2 : ((10 : Nat) : Int) ≤ (cap : Int) := by omega
  generalize be ((zs.drop 10).take 2) = sp at *
  generalize be ((zs.drop 12).take 2) = dp at *
  have w1 : IntKind.u16.wrap (sp : Int) = (sp : Int) := by rw [IntKind.wrap_u16]; omega
  have w2 : IntKind.u16.wrap (dp : Int) = (dp : Int) := by rw [IntKind.wrap_u16]; omega
  generalize cellsA false ((zs.drop 2).take 4 ++ List.replicate (16 - 4) 0) = SA at *
  generalize cellsA false ((zs.drop 6).take 4 ++ List.replicate (16 - 4) 0) = DA at *
  generalize zs.getD 0 0 = p at *
  have YS : Hid (SA.size = Array.size (Zc17 : Array Value)) := sS
  have YD : Hid (DA.size = Array.size (Zc17 : Array Value)) := sD
  have QS := Lib.hid (i24.trans (congrArg some sS.symm))
  have QD := Lib.hid (i24.trans (congrArg some sD.symm))
  have AS := Lib.hid aS
  have AD := Lib.hid aD
  have s5 : (kcells p SA DA sp dp).size = 37 := kcells_size _ _ _ _ _ sS sD
  have Y5 : Hid ((kcells p SA DA sp dp).size = k0.cs.size) := s5.trans sz0.symm
  have Y6 : Hid ((kcells p SA DA sp dp).size = Array.size (ZcK : Array Value)) := s5
  have Q5 := Lib.hid (i42.trans (congrArg some s5.symm))
  have A5 := Lib.hid (kcells_all p SA DA sp dp aS aD)
  have BK := Lib.hid (key_built p SA DA sp dp sS sD)
  have e6 : ((p : Int) != 6) = false := by rw [hp]; rfl
  generalize kcells p SA DA sp dp = k5 at *
  generalize (zs.drop 2).take 4 = Z1 at *
  generalize (zs.drop 6).take 4 = Z2 at *
  rw [hl] at *
  clear h hb hv6 lS lD hcs sS sD aS aD hc s5 h4 hl sz0 hp b1 b2
  unfold maxLen at hlm
  go_enter Tryd.func10, Tryd.ntmps10
  have hal := (Below.refl w.heap.size w).alloc (Nat.le_refl _) (.cells ZcK 27)
  replace K := Lib.hid (K.out.trans (hal.mono K.out.size))
  have HT := Lib.hid (Blk.new w 27 ZcK)
  clear hal
  have hc1 := (K.out.cell (p := ⟨bb, off + 1, none⟩) hbl).trans HC1.out
  have hc0 := (K.out.cell (p := ⟨bb, off, none⟩) hbl).trans HC0.out
  go_wp2_with fail
  have hzV1 : Hid ((w.alloc (.cells ZcK 27)).heap.size = w.heap.size + 1) := by show _ = _; simp only [World.size_alloc]
  generalize (w.alloc (.cells ZcK 27)) = V1 at *
  refine (CF1.out V1 _ (R1.out.below K.out)).mono ?_
  rintro e V2 ⟨rfl, hy⟩
  replace K := Lib.hid (K.out.trans (hy.mono K.out.size))
  replace HT := Lib.hid (HT.out.below hy HT.out.lt)
  clear hy
  go_wp2_with (((with_reducible refine wpList_blk_store (op := ⟨none, .store 24 (.tmp 5) (.tmp 54), _, _, _, _⟩) ?sg6 24 (.tmp 5) (.tmp 54) ?so6 (V2.heap.size) SA ?sx6 ?sy6 (Blk.new V2 24 Zc17) YS.out QS.out AS.out ?_); (case sg6 => rfl); (case so6 => rfl); (case sx6 => rfl); (case sy6 => rfl)))
  have qHTH5 : w.heap.size < V2.heap.size := HT.out.lt
  intro V3 hA hF hB
  have hy := ((Below.refl V2.heap.size V2).alloc (Nat.le_refl _) (.cells Zc17 24)).trans (hB _ (Nat.le_refl _))
  replace K := Lib.hid (K.out.trans (hy.mono K.out.size))
  replace HT := Lib.hid (HT.out.below hy HT.out.lt)
  have H5 := Lib.hid hA
  clear hA hF hB hy
  go_wp2_with fail
  refine (CF2.out V3 _ (R2.out.below K.out)).mono ?_
  rintro e V4 ⟨rfl, hy⟩
  replace K := Lib.hid (K.out.trans (hy.mono K.out.size))
  replace HT := Lib.hid (HT.out.below hy HT.out.lt)
  replace H5 := Lib.hid (H5.out.below hy H5.out.lt)
  clear hy
  go_wp2_with (((with_reducible refine wpList_blk_store (op := ⟨none, .store 24 (.tmp 7) (.tmp 65), _, _, _, _⟩) ?sg7 24 (.tmp 7) (.tmp 65) ?so7 (V4.heap.size) DA ?sx7 ?sy7 (Blk.new V4 24 Zc17) YD.out QD.out AD.out ?_); (case sg7 => rfl); (case so7 => rfl); (case sx7 => rfl); (case sy7 => rfl)))
  have qHTH7 : w.heap.size < V4.heap.size := HT.out.lt
  have qH5H7 : V2.heap.size < V4.heap.size := H5.out.lt
  intro V5 hA hF hB
  have hy := ((Below.refl V4.heap.size V4).alloc (Nat.le_refl _) (.cells Zc17 24)).trans (hB _ (Nat.le_refl _))
  replace K := Lib.hid (K.out.trans (hy.mono K.out.size))
  replace HT := Lib.hid (HT.out.below hy HT.out.lt)
  replace H5 := Lib.hid (H5.out.below hy H5.out.lt)
  have H7 := Lib.hid hA
  clear hA hF hB hy
  go_wp2_with fail
  have hrV := HR.out.below K.out
  have hc0V := (K.out.cell (p := ⟨bb, off, none⟩) hbl).trans HC0.out
  have HC9 := Lib.hid hc0V
  have n2 : w.heap.size < V5.heap.size := HT.out.lt
  refine wp_region_held (S := (fun w' : World => Below w.heap.size V5 w' ∧ Blk w' (V2.heap.size) 24 SA ∧ Blk w' (V4.heap.size) 24 DA)) (by kernel_rfl) ?_
  change wpAnyH _ _ _ _ _ _ _ _ V5.drew
  have HS : Hid (Below w.heap.size V5 V5.drew ∧ Blk V5.drew (V2.heap.size) 24 SA ∧ Blk V5.drew (V4.heap.size) 24 DA) := ⟨(Below.refl _ _).drew, H5.out.drew, H7.out.drew⟩
  replace HT := Lib.hid HT.out.drew
  have hy : Below V5.heap.size V5 V5.drew := (Below.refl _ _).drew
  have HRV := Lib.hid (hrV.below hy)
  clear hrV hy hc0V
  generalize V5.drew = Y0 at HS HRV HT ⊢
  refine tkA 0 (?_) ?_ HS.out ?_
  rotate_left
  · (intro w1 hS; go_simp; try with_reducible rfl)
  simp only [Act.put, tS1, tS2, tS3]
  refine tkA 1 (?_) ?_ HS.out ?_
  rotate_left
  · (intro w1 hS; go_simp; try with_reducible rfl)
  simp only [Act.put, tS1, tS2, tS3]
  refine tkA 2 (?_) ?_ HS.out ?_
  rotate_left
  · (intro w1 hS; have q := (hS.1.cell (p := ⟨bb, off, none⟩) hbl).trans ((show V5.cell? ⟨bb, off, none⟩ = some (.int .u8 (p : Int)) from HC9.out)); go_simp; try with_reducible rfl)
  simp only [Act.put, tS1, tS2, tS3]
  refine tkA 3 (.agg SA) ?_ HS.out ?_
  · (intro w1 hS; exact exec_load 24 (.tmp 5) rfl _ rfl _ (run_blk_load (P := Tryd.prog) 24 (V2.heap.size) _ hS.2.1 Tryd.underlying24 rfl QS.out))
  simp only [Act.put, tS1, tS2, tS3]
  refine tkA 4 (.agg DA) ?_ HS.out ?_
  · (intro w1 hS; exact exec_load 24 (.tmp 7) rfl _ rfl _ (run_blk_load (P := Tryd.prog) 24 (V4.heap.size) _ hS.2.2 Tryd.underlying24 rfl QD.out))
  simp only [Act.put, tS1, tS2, tS3]
  refine tkA 5 (?_) ?_ HS.out ?_
  rotate_left
  · (intro w1 hS; go_simp; try with_reducible rfl)
  simp only [Act.put, tS1, tS2, tS3]
  refine tkA 6 (?_) ?_ HS.out ?_
  rotate_left
  · (intro w1 hS; go_simp; try with_reducible rfl)
  simp only [Act.put, tS1, tS2, tS3]
  refine tkA 7 (?_) ?_ HS.out ?_
  rotate_left
  · (intro w1 hS; go_simp; try with_reducible rfl)
  simp only [Act.put, tS1, tS2, tS3]
  refine tkA 8 (?_) ?_ HS.out ?_
  rotate_left
  · (intro w1 hS; go_simp; try with_reducible rfl)
  simp only [Act.put, tS1, tS2, tS3]
  refine tkA 11 (?_) ?_ HS.out ?_
  rotate_left
  · (intro w1 hS; go_simp; try with_reducible rfl)
  simp only [Act.put, tS1, tS2, tS3]
  refine tkA 12 (?_) ?_ HS.out ?_
  rotate_left
  · (intro w1 hS; go_simp; try with_reducible rfl)
  simp only [Act.put, tS1, tS2, tS3]
  refine tkA 13 (?_) ?_ HS.out ?_
  rotate_left
  · (intro w1 hS; go_simp; try with_reducible rfl)
  simp only [Act.put, tS1, tS2, tS3]
  refine tkA 14 (?_) ?_ HS.out ?_
  rotate_left
  · (intro w1 hS; go_simp; try with_reducible rfl)
  simp only [Act.put, tS1, tS2, tS3]
  refine tkO 9 (fun KK hK => ?_)
  go_simp
  refine (CB1.out Y0 _ _ HRV.out).mono ?_
  rintro e Y1 ⟨rfl, hy⟩
  replace HRV := Lib.hid (HRV.out.below hy)
  replace HT := Lib.hid (HT.out.below hy HT.out.lt)
  replace HS := Lib.hid (show Below w.heap.size V5 Y1 ∧ Blk Y1 (V2.heap.size) 24 SA ∧ Blk Y1 (V4.heap.size) 24 DA from ⟨HS.out.1.trans (hy.mono (Nat.le_trans (Nat.le_of_lt n2) HS.out.1.size)), HS.out.2.1.below hy HS.out.2.1.lt, HS.out.2.2.below hy HS.out.2.2.lt⟩)
  refine hK.out _ _ HS.out (fun _ => ?_)
  clear hK KK hy
  try simp only [Act.put, tS1, tS2, tS3]
  refine tkA 10 (?_) ?_ HS.out ?_
  rotate_left
  · (intro w1 hS; go_simp; try with_reducible rfl)
  simp only [Act.put, tS1, tS2, tS3]
  refine tkO 15 (fun KK hK => ?_)
  go_simp
  refine (CB2.out Y1 _ _ HRV.out).mono ?_
  rintro e Y2 ⟨rfl, hy⟩
  replace HRV := Lib.hid (HRV.out.below hy)
  replace HT := Lib.hid (HT.out.below hy HT.out.lt)
  replace HS := Lib.hid (show Below w.heap.size V5 Y2 ∧ Blk Y2 (V2.heap.size) 24 SA ∧ Blk Y2 (V4.heap.size) 24 DA from ⟨HS.out.1.trans (hy.mono (Nat.le_trans (Nat.le_of_lt n2) HS.out.1.size)), HS.out.2.1.below hy HS.out.2.1.lt, HS.out.2.2.below hy HS.out.2.2.lt⟩)
  refine hK.out _ _ HS.out (fun _ => ?_)
  clear hK KK hy
  try simp only [Act.put, tS1, tS2, tS3]
  refine tkA 16 (?_) ?_ HS.out ?_
  rotate_left
  · (intro w1 hS; go_simp; try with_reducible rfl)
  simp only [Act.put, tS1, tS2, tS3]
  refine tkA 17 (.agg k5) ?_ HS.out ?_
  · (intro w1 hS; exact exec_build 27 _ rfl #[(0, .int .u8 (p : Int)), (1, .agg SA), (2, .agg DA), (3, .int .u16 (sp : Int)), (4, .int .u16 (dp : Int))] (by kernel_rfl) k5 BK.out)
  simp only [Act.put, tS1, tS2, tS3]
  refine tkO 18 (fun KK hK => ?_)
  rw [if_pos (by rfl)]
  refine wp_blk_store 27 (.tmp 2) (.tmp 84) rfl k5 rfl rfl HT.out Y6.out Q5.out A5.out ?_
  intro Y4 hA hF hB
  replace HS := Lib.hid (show Below w.heap.size V5 Y4 ∧ Blk Y4 (V2.heap.size) 24 SA ∧ Blk Y4 (V4.heap.size) 24 DA from ⟨HS.out.1.trans (hB _ (Nat.le_refl _)), (hF _ (by omega)).trans HS.out.2.1, (hF _ (by omega)).trans HS.out.2.2⟩)
  replace HT := Lib.hid (show Blk Y4 w.heap.size 27 k5 from hA)
  clear hA hF hB
  refine hK.out _ _ HS.out (fun _ => ?_)
  clear hK KK
  simp only [Act.put]
  refine tkA 19 (?_) ?_ HS.out ?_
  rotate_left
  · (intro w1 hS; go_simp; try with_reducible rfl)
  simp only [Act.put, tS1, tS2, tS3]
  refine wpAnyH_done (by kernel_rfl) ?_ _
  replace K := Lib.hid (K.out.trans HS.out.1)
  clear HS
  go_wp2
  have hrun := run_blk_load (P := Tryd.prog) 27 w.heap.size _ HT.out Tryd.underlying27 rfl Q5.out
  exact bodyPost_ret (results_cell_tmp 2 27 3 w.heap.size _ Tryd.results10 rfl hrun) rfl ⟨rfl, K.out⟩
set_option maxRecDepth 100000 in
set_option maxHeartbeats 4000000 in
theorem rfrom_y4_17 (x : Value) (zs : List Nat) (w : World) (h : Rd w x (nus .u8 zs)) (hb : ∀ c ∈ zs, c < 256) (h4 : zs.getD 1 0 = 4) (hl : zs.length = 14) (hp : zs.getD 0 0 = 17) :
    Calls Tryd.prog 10 #[x] w fun e w' => e = .returned (.tuple #[.agg (fF zs).cs, .bool true]) ∧ Below w.heap.size w w' := by
  have K := Lib.hid (Below.refl w.heap.size w)
  have HR := Lib.hid h
  obtain ⟨a, cap, rfl, hlc, hlm⟩ := rd_shape h
  have sz0 : k0.cs.size = 37 := k0.cs_size k0_fit
  have Y0 : Hid (k0.cs.size = Array.size (ZcK : Array Value)) := sz0
  have Q0 := Lib.hid (i42.trans (congrArg some sz0.symm))
  have A0 := Lib.hid k0.cs_all
  obtain ⟨bb, off, rfl, hc⟩ := h.cells (by omega)
  have HC1 := Lib.hid (hc 1 (by omega))
  have hbl := rd_cell (n := 1) (hc 1 (by omega))
  have HC0 := Lib.hid (hc 0 (by omega))
  rw [Nat.add_zero] at HC0
  rw [h4] at HC1
  have hv6 : v6F zs = false := by unfold v6F; rw [h4]; rfl
  have lS : ((zs.drop 2).take 4).length = 4 := by rw [List.length_take, List.length_drop, hl]; rfl
  have lD : ((zs.drop 6).take 4).length = 4 := by rw [List.length_take, List.length_drop, hl]; rfl
  have CF1 := Lib.hid (fun W z (h : Rd W z (nus .u8 ((zs.drop 2).take 4))) => rfrom_ok z false ((zs.drop 2).take 4) W h (.inl ⟨lS, rfl⟩))
  have CF2 := Lib.hid (fun W z (h : Rd W z (nus .u8 ((zs.drop 6).take 4))) => rfrom_ok z false ((zs.drop 6).take 4) W h (.inl ⟨lD, rfl⟩))
  rw [lS] at CF1
  rw [lD] at CF2
  have b1 := be_take_lt zs 10 2 hb (by omega)
  have b2 := be_take_lt zs 12 2 hb (by omega)
  have CB1 := Lib.hid (show ∀ W a c, Rd W (.slice a 14 c) (nus .u8 zs) → Calls Tryd.prog 27 #[.slice a 14 c, .int .i64 10] W fun e w' => e = .returned (.int .i64 (be ((zs.drop 10).take 2) : Nat)) ∧ Below W.heap.size W w' from fun W a c h => (be16_any a 14 c 10 zs W h hb (by omega)).mono fun e w' ⟨q1, m, q2⟩ => ⟨by rw [be_two zs 10 (by omega)]; exact q1, q2 ▸ below_drewN (Below.refl _ _) m⟩)
  have CB2 := Lib.hid (show ∀ W a c, Rd W (.slice a 14 c) (nus .u8 zs) → Calls Tryd.prog 27 #[.slice a 14 c, .int .i64 12] W fun e w' => e = .returned (.int .i64 (be ((zs.drop 12).take 2) : Nat)) ∧ Below W.heap.size W w' from fun W a c h => (be16_any a 14 c 12 zs W h hb (by omega)).mono fun e w' ⟨q1, m, q2⟩ => ⟨by rw [be_two zs 12 (by omega)]; exact q1, q2 ▸ below_drewN (Below.refl _ _) m⟩)
  have hcs : (fF zs).cs = kcells (zs.getD 0 0) (cellsA false ((zs.drop 2).take 4 ++ List.replicate (16 - 4) 0)) (cellsA false ((zs.drop 6).take 4 ++ List.replicate (16 - 4) 0)) (be ((zs.drop 10).take 2)) (be ((zs.drop 12).take 2)) := by
    unfold Fl.cs fF
    rw [hv6]
    rfl
  rw [hcs]
  have sS : (cellsA false ((zs.drop 2).take 4 ++ List.replicate (16 - 4) 0)).size = 17 := by rw [cellsA_size, List.length_append, lS, List.length_replicate]
  have sD : (cellsA false ((zs.drop 6).take 4 ++ List.replicate (16 - 4) 0)).size = 17 := by rw [cellsA_size, List.length_append, lD, List.length_replicate]
  have aS := cellsA_all false ((zs.drop 2).take 4 ++ List.replicate (16 - 4) 0)
  have aD := cellsA_all false ((zs.drop 6).take 4 ++ List.replicate (16 - 4) 0)
  unfold adr at CF1 CF2
  have R1 := Lib.hid (HR.out.sub 2 4 (by omega))
  have R2 := Lib.hid (HR.out.sub 6 4 (by omega))
  have h2 : (cap = 2) = False := eq_false (by omega)
  have h3 : (cap = 6) = False := eq_false (by omega)
  have q1 : ((6 : Nat) : Int) ≤ (cap : Int) := by omega
  have q2 : ((10 : Nat) : Int) ≤ (cap : Int) := by omega
  generalize be ((zs.drop 10).take 2) = sp at *
  generalize be ((zs.drop 12).take 2) = dp at *
  have w1 : IntKind.u16.wrap (sp : Int) = (sp : Int) := by rw [IntKind.wrap_u16]; omega
  have w2 : IntKind.u16.wrap (dp : Int) = (dp : Int) := by rw [IntKind.wrap_u16]; omega
  generalize cellsA false ((zs.drop 2).take 4 ++ List.replicate (16 - 4) 0) = SA at *
  generalize cellsA false ((zs.drop 6).take 4 ++ List.replicate (16 - 4) 0) = DA at *
  generalize zs.getD 0 0 = p at *
  have YS : Hid (SA.size = Array.size (Zc17 : Array Value)) := sS
  have YD : Hid (DA.size = Array.size (Zc17 : Array Value)) := sD
  have QS := Lib.hid (i24.trans (congrArg some sS.symm))
  have QD := Lib.hid (i24.trans (congrArg some sD.symm))
  have AS := Lib.hid aS
  have AD := Lib.hid aD
  have s5 : (kcells p SA DA sp dp).size = 37 := kcells_size _ _ _ _ _ sS sD
  have Y5 : Hid ((kcells p SA DA sp dp).size = k0.cs.size) := s5.trans sz0.symm
  have Y6 : Hid ((kcells p SA DA sp dp).size = Array.size (ZcK : Array Value)) := s5
  have Q5 := Lib.hid (i42.trans (congrArg some s5.symm))
  have A5 := Lib.hid (kcells_all p SA DA sp dp aS aD)
  have BK := Lib.hid (key_built p SA DA sp dp sS sD)
  have e6 : ((p : Int) != 6) = true := by rw [hp]; rfl
  have e17 : ((p : Int) != 17) = false := by rw [hp]; rfl
  generalize kcells p SA DA sp dp = k5 at *
  generalize (zs.drop 2).take 4 = Z1 at *
  generalize (zs.drop 6).take 4 = Z2 at *
  rw [hl] at *
  clear h hb hv6 lS lD hcs sS sD aS aD hc s5 h4 hl sz0 hp b1 b2
  unfold maxLen at hlm
  go_enter Tryd.func10, Tryd.ntmps10
  have hal := (Below.refl w.heap.size w).alloc (Nat.le_refl _) (.cells ZcK 27)
  replace K := Lib.hid (K.out.trans (hal.mono K.out.size))
  have HT := Lib.hid (Blk.new w 27 ZcK)
  clear hal
  have hc1 := (K.out.cell (p := ⟨bb, off + 1, none⟩) hbl).trans HC1.out
  have hc0 := (K.out.cell (p := ⟨bb, off, none⟩) hbl).trans HC0.out
  go_wp2_with fail
  have hzV1 : Hid ((w.alloc (.cells ZcK 27)).heap.size = w.heap.size + 1) := by show _ = _; simp only [World.size_alloc]
  generalize (w.alloc (.cells ZcK 27)) = V1 at *
  refine (CF1.out V1 _ (R1.out.below K.out)).mono ?_
  rintro e V2 ⟨rfl, hy⟩
  replace K := Lib.hid (K.out.trans (hy.mono K.out.size))
  replace HT := Lib.hid (HT.out.below hy HT.out.lt)
  clear hy
  go_wp2_with (((with_reducible refine wpList_blk_store (op := ⟨none, .store 24 (.tmp 5) (.tmp 54), _, _, _, _⟩) ?sg8 24 (.tmp 5) (.tmp 54) ?so8 (V2.heap.size) SA ?sx8 ?sy8 (Blk.new V2 24 Zc17) YS.out QS.out AS.out ?_); (case sg8 => rfl); (case so8 => rfl); (case sx8 => rfl); (case sy8 => rfl)))
  have qHTH5 : w.heap.size < V2.heap.size := HT.out.lt
  intro V3 hA hF hB
  have hy := ((Below.refl V2.heap.size V2).alloc (Nat.le_refl _) (.cells Zc17 24)).trans (hB _ (Nat.le_refl _))
  replace K := Lib.hid (K.out.trans (hy.mono K.out.size))
  replace HT := Lib.hid (HT.out.below hy HT.out.lt)
  have H5 := Lib.hid hA
  clear hA hF hB hy
  go_wp2_with fail
  refine (CF2.out V3 _ (R2.out.below K.out)).mono ?_
  rintro e V4 ⟨rfl, hy⟩
  replace K := Lib.hid (K.out.trans (hy.mono K.out.size))
  replace HT := Lib.hid (HT.out.below hy HT.out.lt)
  replace H5 := Lib.hid (H5.out.below hy H5.out.lt)
  clear hy
  go_wp2_with (((with_reducible refine wpList_blk_store (op := ⟨none, .store 24 (.tmp 7) (.tmp 65), _, _, _, _⟩) ?sg9 24 (.tmp 7) (.tmp 65) ?so9 (V4.heap.size) DA ?sx9 ?sy9 (Blk.new V4 24 Zc17) YD.out QD.out AD.out ?_); (case sg9 => rfl); (case so9 => rfl); (case sx9 => rfl); (case sy9 => rfl)))
  have qHTH7 : w.heap.size < V4.heap.size := HT.out.lt
  have qH5H7 : V2.heap.size < V4.heap.size := H5.out.lt
  intro V5 hA hF hB
  have hy := ((Below.refl V4.heap.size V4).alloc (Nat.le_refl _) (.cells Zc17 24)).trans (hB _ (Nat.le_refl _))
  replace K := Lib.hid (K.out.trans (hy.mono K.out.size))
  replace HT := Lib.hid (HT.out.below hy HT.out.lt)
  replace H5 := Lib.hid (H5.out.below hy H5.out.lt)
  have H7 := Lib.hid hA
  clear hA hF hB hy
  go_wp2_with fail
  have hrV := HR.out.below K.out
  have hc0V := (K.out.cell (p := ⟨bb, off, none⟩) hbl).trans HC0.out
  have HC9 := Lib.hid hc0V
  have n2 : w.heap.size < V5.heap.size := HT.out.lt
  refine wp_region_held (S := (fun w' : World => Below w.heap.size V5 w' ∧ Blk w' (V2.heap.size) 24 SA ∧ Blk w' (V4.heap.size) 24 DA)) (by kernel_rfl) ?_
  change wpAnyH _ _ _ _ _ _ _ _ V5.drew
  have HS : Hid (Below w.heap.size V5 V5.drew ∧ Blk V5.drew (V2.heap.size) 24 SA ∧ Blk V5.drew (V4.heap.size) 24 DA) := ⟨(Below.refl _ _).drew, H5.out.drew, H7.out.drew⟩
  replace HT := Lib.hid HT.out.drew
  have hy : Below V5.heap.size V5 V5.drew := (Below.refl _ _).drew
  have HRV := Lib.hid (hrV.below hy)
  clear hrV hy hc0V
  generalize V5.drew = Y0 at HS HRV HT ⊢
  refine tkA 0 (?_) ?_ HS.out ?_
  rotate_left
  · (intro w1 hS; go_simp; try with_reducible rfl)
  simp only [Act.put, tS1, tS2, tS3]
  refine tkA 1 (?_) ?_ HS.out ?_
  rotate_left
  · (intro w1 hS; go_simp; try with_reducible rfl)
  simp only [Act.put, tS1, tS2, tS3]
  refine tkA 2 (?_) ?_ HS.out ?_
  rotate_left
  · (intro w1 hS; have q := (hS.1.cell (p := ⟨bb, off, none⟩) hbl).trans ((show V5.cell? ⟨bb, off, none⟩ = some (.int .u8 (p : Int)) from HC9.out)); go_simp; try with_reducible rfl)
  simp only [Act.put, tS1, tS2, tS3]
  refine tkA 3 (.agg SA) ?_ HS.out ?_
  · (intro w1 hS; exact exec_load 24 (.tmp 5) rfl _ rfl _ (run_blk_load (P := Tryd.prog) 24 (V2.heap.size) _ hS.2.1 Tryd.underlying24 rfl QS.out))
  simp only [Act.put, tS1, tS2, tS3]
  refine tkA 4 (.agg DA) ?_ HS.out ?_
  · (intro w1 hS; exact exec_load 24 (.tmp 7) rfl _ rfl _ (run_blk_load (P := Tryd.prog) 24 (V4.heap.size) _ hS.2.2 Tryd.underlying24 rfl QD.out))
  simp only [Act.put, tS1, tS2, tS3]
  refine tkA 5 (?_) ?_ HS.out ?_
  rotate_left
  · (intro w1 hS; go_simp; try with_reducible rfl)
  simp only [Act.put, tS1, tS2, tS3]
  refine tkA 6 (?_) ?_ HS.out ?_
  rotate_left
  · (intro w1 hS; go_simp; try with_reducible rfl)
  simp only [Act.put, tS1, tS2, tS3]
  refine tkA 7 (?_) ?_ HS.out ?_
  rotate_left
  · (intro w1 hS; go_simp; try with_reducible rfl)
  simp only [Act.put, tS1, tS2, tS3]
  refine tkA 8 (?_) ?_ HS.out ?_
  rotate_left
  · (intro w1 hS; go_simp; try with_reducible rfl)
  simp only [Act.put, tS1, tS2, tS3]
  refine tkA 11 (?_) ?_ HS.out ?_
  rotate_left
  · (intro w1 hS; go_simp; try with_reducible rfl)
  simp only [Act.put, tS1, tS2, tS3]
  refine tkA 12 (?_) ?_ HS.out ?_
  rotate_left
  · (intro w1 hS; go_simp; try with_reducible rfl)
  simp only [Act.put, tS1, tS2, tS3]
  refine tkA 13 (?_) ?_ HS.out ?_
  rotate_left
  · (intro w1 hS; go_simp; try with_reducible rfl)
  simp only [Act.put, tS1, tS2, tS3]
  refine tkA 14 (?_) ?_ HS.out ?_
  rotate_left
  · (intro w1 hS; go_simp; try with_reducible rfl)
  simp only [Act.put, tS1, tS2, tS3]
  refine tkO 9 (fun KK hK => ?_)
  go_simp
  refine (CB1.out Y0 _ _ HRV.out).mono ?_
  rintro e Y1 ⟨rfl, hy⟩
  replace HRV := Lib.hid (HRV.out.below hy)
  replace HT := Lib.hid (HT.out.below hy HT.out.lt)
  replace HS := Lib.hid (show Below w.heap.size V5 Y1 ∧ Blk Y1 (V2.heap.size) 24 SA ∧ Blk Y1 (V4.heap.size) 24 DA from ⟨HS.out.1.trans (hy.mono (Nat.le_trans (Nat.le_of_lt n2) HS.out.1.size)), HS.out.2.1.below hy HS.out.2.1.lt, HS.out.2.2.below hy HS.out.2.2.lt⟩)
  refine hK.out _ _ HS.out (fun _ => ?_)
  clear hK KK hy
  try simp only [Act.put, tS1, tS2, tS3]
  refine tkA 10 (?_) ?_ HS.out ?_
  rotate_left
  · (intro w1 hS; go_simp; try with_reducible rfl)
  simp only [Act.put, tS1, tS2, tS3]
  refine tkO 15 (fun KK hK => ?_)
  go_simp
  refine (CB2.out Y1 _ _ HRV.out).mono ?_
  rintro e Y2 ⟨rfl, hy⟩
  replace HRV := Lib.hid (HRV.out.below hy)
  replace HT := Lib.hid (HT.out.below hy HT.out.lt)
  replace HS := Lib.hid (show Below w.heap.size V5 Y2 ∧ Blk Y2 (V2.heap.size) 24 SA ∧ Blk Y2 (V4.heap.size) 24 DA from ⟨HS.out.1.trans (hy.mono (Nat.le_trans (Nat.le_of_lt n2) HS.out.1.size)), HS.out.2.1.below hy HS.out.2.1.lt, HS.out.2.2.below hy HS.out.2.2.lt⟩)
  refine hK.out _ _ HS.out (fun _ => ?_)
  clear hK KK hy
  try simp only [Act.put, tS1, tS2, tS3]
  refine tkA 16 (?_) ?_ HS.out ?_
  rotate_left
  · (intro w1 hS; go_simp; try with_reducible rfl)
  simp only [Act.put, tS1, tS2, tS3]
  refine tkA 17 (.agg k5) ?_ HS.out ?_
  · (intro w1 hS; exact exec_build 27 _ rfl #[(0, .int .u8 (p : Int)), (1, .agg SA), (2, .agg DA), (3, .int .u16 (sp : Int)), (4, .int .u16 (dp : Int))] (by kernel_rfl) k5 BK.out)
  simp only [Act.put, tS1, tS2, tS3]
  refine tkO 18 (fun KK hK => ?_)
  rw [if_pos (by rfl)]
  refine wp_blk_store 27 (.tmp 2) (.tmp 84) rfl k5 rfl rfl HT.out Y6.out Q5.out A5.out ?_
  intro Y4 hA hF hB
  replace HS := Lib.hid (show Below w.heap.size V5 Y4 ∧ Blk Y4 (V2.heap.size) 24 SA ∧ Blk Y4 (V4.heap.size) 24 DA from ⟨HS.out.1.trans (hB _ (Nat.le_refl _)), (hF _ (by omega)).trans HS.out.2.1, (hF _ (by omega)).trans HS.out.2.2⟩)
  replace HT := Lib.hid (show Blk Y4 w.heap.size 27 k5 from hA)
  clear hA hF hB
  refine hK.out _ _ HS.out (fun _ => ?_)
  clear hK KK
  simp only [Act.put]
  refine tkA 19 (?_) ?_ HS.out ?_
  rotate_left
  · (intro w1 hS; go_simp; try with_reducible rfl)
  simp only [Act.put, tS1, tS2, tS3]
  refine wpAnyH_done (by kernel_rfl) ?_ _
  replace K := Lib.hid (K.out.trans HS.out.1)
  clear HS
  go_wp2
  have hrun := run_blk_load (P := Tryd.prog) 27 w.heap.size _ HT.out Tryd.underlying27 rfl Q5.out
  exact bodyPost_ret (results_cell_tmp 2 27 3 w.heap.size _ Tryd.results10 rfl hrun) rfl ⟨rfl, K.out⟩
set_option maxRecDepth 100000 in
set_option maxHeartbeats 4000000 in
theorem rfrom_p6 (x : Value) (zs : List Nat) (w : World) (h : Rd w x (nus .u8 zs)) (h4 : zs.getD 1 0 = 6) (hl : zs.length = 38) (hp : zs.getD 0 0 ≠ 6 ∧ zs.getD 0 0 ≠ 17) :
    Calls Tryd.prog 10 #[x] w fun e w' => e = .returned (.tuple #[.agg k0.cs, .bool false]) ∧ Below w.heap.size w w' := by
  have K := Lib.hid (Below.refl w.heap.size w)
  have HR := Lib.hid h
  obtain ⟨a, cap, rfl, hlc, hlm⟩ := rd_shape h
  have sz0 : k0.cs.size = 37 := k0.cs_size k0_fit
  have Y0 : Hid (k0.cs.size = Array.size (ZcK : Array Value)) := sz0
  have Q0 := Lib.hid (i42.trans (congrArg some sz0.symm))
  have A0 := Lib.hid k0.cs_all
  obtain ⟨bb, off, rfl, hc⟩ := h.cells (by omega)
  have HC1 := Lib.hid (hc 1 (by omega))
  have hbl := rd_cell (n := 1) (hc 1 (by omega))
  have HC0 := Lib.hid (hc 0 (by omega))
  rw [Nat.add_zero] at HC0
  rw [h4] at HC1
  rw [hl] at *
  generalize zs.getD 0 0 = p at *
  have e6 : ((p : Int) != 6) = true := by rw [bne_iff_ne]; omega
  have e17 : ((p : Int) != 17) = true := by rw [bne_iff_ne]; omega
  clear h sz0 hlc hlm h4 hc hl hp
  go_enter Tryd.func10, Tryd.ntmps10
  have hal := (Below.refl w.heap.size w).alloc (Nat.le_refl _) (.cells ZcK 27)
  replace K := Lib.hid (K.out.trans (hal.mono K.out.size))
  have HT := Lib.hid (Blk.new w 27 ZcK)
  clear hal
  have hc1 := (K.out.cell (p := ⟨bb, off + 1, none⟩) hbl).trans HC1.out
  have hc0 := (K.out.cell (p := ⟨bb, off, none⟩) hbl).trans HC0.out
  go_wp2_with (((with_reducible refine wpList_blk_store (op := ⟨none, .store 27 (.tmp 2) (.tmp 47), _, _, _, _⟩) ?sg10 27 (.tmp 2) (.tmp 47) ?so10 (w.heap.size) k0.cs ?sx10 ?sy10 HT.out Y0.out Q0.out A0.out ?_); (case sg10 => rfl); (case so10 => rfl); (case sx10 => rfl); (case sy10 => rfl)))
  intro V1 hA hF hB
  replace K := Lib.hid (K.out.trans (hB _ (by omega)))
  replace HT := Lib.hid hA
  clear hA hF hB
  go_wp2
  have hrun := run_blk_load (P := Tryd.prog) 27 w.heap.size _ HT.out Tryd.underlying27 rfl Q0.out
  exact bodyPost_ret (results_cell_tmp 2 27 3 w.heap.size _ Tryd.results10 rfl hrun) rfl ⟨rfl, K.out⟩
set_option maxRecDepth 100000 in
set_option maxHeartbeats 4000000 in
theorem rfrom_y6_6 (x : Value) (zs : List Nat) (w : World) (h : Rd w x (nus .u8 zs)) (hb : ∀ c ∈ zs, c < 256) (h4 : zs.getD 1 0 = 6) (hl : zs.length = 38) (hp : zs.getD 0 0 = 6) :
    Calls Tryd.prog 10 #[x] w fun e w' => e = .returned (.tuple #[.agg (fF zs).cs, .bool true]) ∧ Below w.heap.size w w' := by
  have K := Lib.hid (Below.refl w.heap.size w)
  have HR := Lib.hid h
  obtain ⟨a, cap, rfl, hlc, hlm⟩ := rd_shape h
  have sz0 : k0.cs.size = 37 := k0.cs_size k0_fit
  have Y0 : Hid (k0.cs.size = Array.size (ZcK : Array Value)) := sz0
  have Q0 := Lib.hid (i42.trans (congrArg some sz0.symm))
  have A0 := Lib.hid k0.cs_all
  obtain ⟨bb, off, rfl, hc⟩ := h.cells (by omega)
  have HC1 := Lib.hid (hc 1 (by omega))
  have hbl := rd_cell (n := 1) (hc 1 (by omega))
  have HC0 := Lib.hid (hc 0 (by omega))
  rw [Nat.add_zero] at HC0
  rw [h4] at HC1
  have hv6 : v6F zs = true := by unfold v6F; rw [h4]; rfl
  have lS : ((zs.drop 2).take 16).length = 16 := by rw [List.length_take, List.length_drop, hl]; rfl
  have lD : ((zs.drop 18).take 16).length = 16 := by rw [List.length_take, List.length_drop, hl]; rfl
  have CF1 := Lib.hid (fun W z (h : Rd W z (nus .u8 ((zs.drop 2).take 16))) => rfrom_ok z true ((zs.drop 2).take 16) W h (.inr ⟨lS, rfl⟩))
  have CF2 := Lib.hid (fun W z (h : Rd W z (nus .u8 ((zs.drop 18).take 16))) => rfrom_ok z true ((zs.drop 18).take 16) W h (.inr ⟨lD, rfl⟩))
  rw [lS] at CF1
  rw [lD] at CF2
  have b1 := be_take_lt zs 34 2 hb (by omega)
  have b2 := be_take_lt zs 36 2 hb (by omega)
  have CB1 := Lib.hid (show ∀ W a c, Rd W (.slice a 38 c) (nus .u8 zs) → Calls Tryd.prog 27 #[.slice a 38 c, .int .i64 34] W fun e w' => e = .returned (.int .i64 (be ((zs.drop 34).take 2) : Nat)) ∧ Below W.heap.size W w' from fun W a c h => (be16_any a 38 c 34 zs W h hb (by omega)).mono fun e w' ⟨q1, m, q2⟩ => ⟨by rw [be_two zs 34 (by omega)]; exact q1, q2 ▸ below_drewN (Below.refl _ _) m⟩)
  have CB2 := Lib.hid (show ∀ W a c, Rd W (.slice a 38 c) (nus .u8 zs) → Calls Tryd.prog 27 #[.slice a 38 c, .int .i64 36] W fun e w' => e = .returned (.int .i64 (be ((zs.drop 36).take 2) : Nat)) ∧ Below W.heap.size W w' from fun W a c h => (be16_any a 38 c 36 zs W h hb (by omega)).mono fun e w' ⟨q1, m, q2⟩ => ⟨by rw [be_two zs 36 (by omega)]; exact q1, q2 ▸ below_drewN (Below.refl _ _) m⟩)
  have hcs : (fF zs).cs = kcells (zs.getD 0 0) (cellsA true ((zs.drop 2).take 16 ++ List.replicate (16 - 16) 0)) (cellsA true ((zs.drop 18).take 16 ++ List.replicate (16 - 16) 0)) (be ((zs.drop 34).take 2)) (be ((zs.drop 36).take 2)) := by
    unfold Fl.cs fF
    rw [hv6]
    rfl
  rw [hcs]
  have sS : (cellsA true ((zs.drop 2).take 16 ++ List.replicate (16 - 16) 0)).size = 17 := by rw [cellsA_size, List.length_append, lS, List.length_replicate]
  have sD : (cellsA true ((zs.drop 18).take 16 ++ List.replicate (16 - 16) 0)).size = 17 := by rw [cellsA_size, List.length_append, lD, List.length_replicate]
  have aS := cellsA_all true ((zs.drop 2).take 16 ++ List.replicate (16 - 16) 0)
  have aD := cellsA_all true ((zs.drop 18).take 16 ++ List.replicate (16 - 16) 0)
  unfold adr at CF1 CF2
  have R1 := Lib.hid (HR.out.sub 2 16 (by omega))
  have R2 := Lib.hid (HR.out.sub 18 16 (by omega))
  have h2 : (cap = 2) = False := eq_false (by omega)
  have h3 : (cap = 18) = False := eq_false (by omega)
  have q1 : ((18 : Nat) : Int) ≤ (cap : Int) := by omega
  have q2 : ((34 : Nat) : Int) ≤ (cap : Int) := by omega
  generalize be ((zs.drop 34).take 2) = sp at *
  generalize be ((zs.drop 36).take 2) = dp at *
  have w1 : IntKind.u16.wrap (sp : Int) = (sp : Int) := by rw [IntKind.wrap_u16]; omega
  have w2 : IntKind.u16.wrap (dp : Int) = (dp : Int) := by rw [IntKind.wrap_u16]; omega
  generalize cellsA true ((zs.drop 2).take 16 ++ List.replicate (16 - 16) 0) = SA at *
  generalize cellsA true ((zs.drop 18).take 16 ++ List.replicate (16 - 16) 0) = DA at *
  generalize zs.getD 0 0 = p at *
  have YS : Hid (SA.size = Array.size (Zc17 : Array Value)) := sS
  have YD : Hid (DA.size = Array.size (Zc17 : Array Value)) := sD
  have QS := Lib.hid (i24.trans (congrArg some sS.symm))
  have QD := Lib.hid (i24.trans (congrArg some sD.symm))
  have AS := Lib.hid aS
  have AD := Lib.hid aD
  have s5 : (kcells p SA DA sp dp).size = 37 := kcells_size _ _ _ _ _ sS sD
  have Y5 : Hid ((kcells p SA DA sp dp).size = k0.cs.size) := s5.trans sz0.symm
  have Y6 : Hid ((kcells p SA DA sp dp).size = Array.size (ZcK : Array Value)) := s5
  have Q5 := Lib.hid (i42.trans (congrArg some s5.symm))
  have A5 := Lib.hid (kcells_all p SA DA sp dp aS aD)
  have BK := Lib.hid (key_built p SA DA sp dp sS sD)
  have e6 : ((p : Int) != 6) = false := by rw [hp]; rfl
  generalize kcells p SA DA sp dp = k5 at *
  generalize (zs.drop 2).take 16 = Z1 at *
  generalize (zs.drop 18).take 16 = Z2 at *
  rw [hl] at *
  clear h hb hv6 lS lD hcs sS sD aS aD hc s5 h4 hl sz0 hp b1 b2
  unfold maxLen at hlm
  go_enter Tryd.func10, Tryd.ntmps10
  have hal := (Below.refl w.heap.size w).alloc (Nat.le_refl _) (.cells ZcK 27)
  replace K := Lib.hid (K.out.trans (hal.mono K.out.size))
  have HT := Lib.hid (Blk.new w 27 ZcK)
  clear hal
  have hc1 := (K.out.cell (p := ⟨bb, off + 1, none⟩) hbl).trans HC1.out
  have hc0 := (K.out.cell (p := ⟨bb, off, none⟩) hbl).trans HC0.out
  go_wp2_with fail
  have hzV1 : Hid ((w.alloc (.cells ZcK 27)).heap.size = w.heap.size + 1) := by show _ = _; simp only [World.size_alloc]
  generalize (w.alloc (.cells ZcK 27)) = V1 at *
  refine (CF1.out V1 _ (R1.out.below K.out)).mono ?_
  rintro e V2 ⟨rfl, hy⟩
  replace K := Lib.hid (K.out.trans (hy.mono K.out.size))
  replace HT := Lib.hid (HT.out.below hy HT.out.lt)
  clear hy
  go_wp2_with (((with_reducible refine wpList_blk_store (op := ⟨none, .store 24 (.tmp 5) (.tmp 54), _, _, _, _⟩) ?sg11 24 (.tmp 5) (.tmp 54) ?so11 (V2.heap.size) SA ?sx11 ?sy11 (Blk.new V2 24 Zc17) YS.out QS.out AS.out ?_); (case sg11 => rfl); (case so11 => rfl); (case sx11 => rfl); (case sy11 => rfl)))
  have qHTH5 : w.heap.size < V2.heap.size := HT.out.lt
  intro V3 hA hF hB
  have hy := ((Below.refl V2.heap.size V2).alloc (Nat.le_refl _) (.cells Zc17 24)).trans (hB _ (Nat.le_refl _))
  replace K := Lib.hid (K.out.trans (hy.mono K.out.size))
  replace HT := Lib.hid (HT.out.below hy HT.out.lt)
  have H5 := Lib.hid hA
  clear hA hF hB hy
  go_wp2_with fail
  refine (CF2.out V3 _ (R2.out.below K.out)).mono ?_
  rintro e V4 ⟨rfl, hy⟩
  replace K := Lib.hid (K.out.trans (hy.mono K.out.size))
  replace HT := Lib.hid (HT.out.below hy HT.out.lt)
  replace H5 := Lib.hid (H5.out.below hy H5.out.lt)
  clear hy
  go_wp2_with (((with_reducible refine wpList_blk_store (op := ⟨none, .store 24 (.tmp 7) (.tmp 65), _, _, _, _⟩) ?sg12 24 (.tmp 7) (.tmp 65) ?so12 (V4.heap.size) DA ?sx12 ?sy12 (Blk.new V4 24 Zc17) YD.out QD.out AD.out ?_); (case sg12 => rfl); (case so12 => rfl); (case sx12 => rfl); (case sy12 => rfl)))
  have qHTH7 : w.heap.size < V4.heap.size := HT.out.lt
  have qH5H7 : V2.heap.size < V4.heap.size := H5.out.lt
  intro V5 hA hF hB
  have hy := ((Below.refl V4.heap.size V4).alloc (Nat.le_refl _) (.cells Zc17 24)).trans (hB _ (Nat.le_refl _))
  replace K := Lib.hid (K.out.trans (hy.mono K.out.size))
  replace HT := Lib.hid (HT.out.below hy HT.out.lt)
  replace H5 := Lib.hid (H5.out.below hy H5.out.lt)
  have H7 := Lib.hid hA
  clear hA hF hB hy
  go_wp2_with fail
  have hrV := HR.out.below K.out
  have hc0V := (K.out.cell (p := ⟨bb, off, none⟩) hbl).trans HC0.out
  have HC9 := Lib.hid hc0V
  have n2 : w.heap.size < V5.heap.size := HT.out.lt
  refine wp_region_held (S := (fun w' : World => Below w.heap.size V5 w' ∧ Blk w' (V2.heap.size) 24 SA ∧ Blk w' (V4.heap.size) 24 DA)) (by kernel_rfl) ?_
  change wpAnyH _ _ _ _ _ _ _ _ V5.drew
  have HS : Hid (Below w.heap.size V5 V5.drew ∧ Blk V5.drew (V2.heap.size) 24 SA ∧ Blk V5.drew (V4.heap.size) 24 DA) := ⟨(Below.refl _ _).drew, H5.out.drew, H7.out.drew⟩
  replace HT := Lib.hid HT.out.drew
  have hy : Below V5.heap.size V5 V5.drew := (Below.refl _ _).drew
  have HRV := Lib.hid (hrV.below hy)
  clear hrV hy hc0V
  generalize V5.drew = Y0 at HS HRV HT ⊢
  refine tkA 0 (?_) ?_ HS.out ?_
  rotate_left
  · (intro w1 hS; go_simp; try with_reducible rfl)
  simp only [Act.put, tS1, tS2, tS3]
  refine tkA 1 (?_) ?_ HS.out ?_
  rotate_left
  · (intro w1 hS; go_simp; try with_reducible rfl)
  simp only [Act.put, tS1, tS2, tS3]
  refine tkA 2 (?_) ?_ HS.out ?_
  rotate_left
  · (intro w1 hS; have q := (hS.1.cell (p := ⟨bb, off, none⟩) hbl).trans ((show V5.cell? ⟨bb, off, none⟩ = some (.int .u8 (p : Int)) from HC9.out)); go_simp; try with_reducible rfl)
  simp only [Act.put, tS1, tS2, tS3]
  refine tkA 3 (.agg SA) ?_ HS.out ?_
  · (intro w1 hS; exact exec_load 24 (.tmp 5) rfl _ rfl _ (run_blk_load (P := Tryd.prog) 24 (V2.heap.size) _ hS.2.1 Tryd.underlying24 rfl QS.out))
  simp only [Act.put, tS1, tS2, tS3]
  refine tkA 4 (.agg DA) ?_ HS.out ?_
  · (intro w1 hS; exact exec_load 24 (.tmp 7) rfl _ rfl _ (run_blk_load (P := Tryd.prog) 24 (V4.heap.size) _ hS.2.2 Tryd.underlying24 rfl QD.out))
  simp only [Act.put, tS1, tS2, tS3]
  refine tkA 5 (?_) ?_ HS.out ?_
  rotate_left
  · (intro w1 hS; go_simp; try with_reducible rfl)
  simp only [Act.put, tS1, tS2, tS3]
  refine tkA 6 (?_) ?_ HS.out ?_
  rotate_left
  · (intro w1 hS; go_simp; try with_reducible rfl)
  simp only [Act.put, tS1, tS2, tS3]
  refine tkA 7 (?_) ?_ HS.out ?_
  rotate_left
  · (intro w1 hS; go_simp; try with_reducible rfl)
  simp only [Act.put, tS1, tS2, tS3]
  refine tkA 8 (?_) ?_ HS.out ?_
  rotate_left
  · (intro w1 hS; go_simp; try with_reducible rfl)
  simp only [Act.put, tS1, tS2, tS3]
  refine tkA 11 (?_) ?_ HS.out ?_
  rotate_left
  · (intro w1 hS; go_simp; try with_reducible rfl)
  simp only [Act.put, tS1, tS2, tS3]
  refine tkA 12 (?_) ?_ HS.out ?_
  rotate_left
  · (intro w1 hS; go_simp; try with_reducible rfl)
  simp only [Act.put, tS1, tS2, tS3]
  refine tkA 13 (?_) ?_ HS.out ?_
  rotate_left
  · (intro w1 hS; go_simp; try with_reducible rfl)
  simp only [Act.put, tS1, tS2, tS3]
  refine tkA 14 (?_) ?_ HS.out ?_
  rotate_left
  · (intro w1 hS; go_simp; try with_reducible rfl)
  simp only [Act.put, tS1, tS2, tS3]
  refine tkO 9 (fun KK hK => ?_)
  go_simp
  refine (CB1.out Y0 _ _ HRV.out).mono ?_
  rintro e Y1 ⟨rfl, hy⟩
  replace HRV := Lib.hid (HRV.out.below hy)
  replace HT := Lib.hid (HT.out.below hy HT.out.lt)
  replace HS := Lib.hid (show Below w.heap.size V5 Y1 ∧ Blk Y1 (V2.heap.size) 24 SA ∧ Blk Y1 (V4.heap.size) 24 DA from ⟨HS.out.1.trans (hy.mono (Nat.le_trans (Nat.le_of_lt n2) HS.out.1.size)), HS.out.2.1.below hy HS.out.2.1.lt, HS.out.2.2.below hy HS.out.2.2.lt⟩)
  refine hK.out _ _ HS.out (fun _ => ?_)
  clear hK KK hy
  try simp only [Act.put, tS1, tS2, tS3]
  refine tkA 10 (?_) ?_ HS.out ?_
  rotate_left
  · (intro w1 hS; go_simp; try with_reducible rfl)
  simp only [Act.put, tS1, tS2, tS3]
  refine tkO 15 (fun KK hK => ?_)
  go_simp
  refine (CB2.out Y1 _ _ HRV.out).mono ?_
  rintro e Y2 ⟨rfl, hy⟩
  replace HRV := Lib.hid (HRV.out.below hy)
  replace HT := Lib.hid (HT.out.below hy HT.out.lt)
  replace HS := Lib.hid (show Below w.heap.size V5 Y2 ∧ Blk Y2 (V2.heap.size) 24 SA ∧ Blk Y2 (V4.heap.size) 24 DA from ⟨HS.out.1.trans (hy.mono (Nat.le_trans (Nat.le_of_lt n2) HS.out.1.size)), HS.out.2.1.below hy HS.out.2.1.lt, HS.out.2.2.below hy HS.out.2.2.lt⟩)
  refine hK.out _ _ HS.out (fun _ => ?_)
  clear hK KK hy
  try simp only [Act.put, tS1, tS2, tS3]
  refine tkA 16 (?_) ?_ HS.out ?_
  rotate_left
  · (intro w1 hS; go_simp; try with_reducible rfl)
  simp only [Act.put, tS1, tS2, tS3]
  refine tkA 17 (.agg k5) ?_ HS.out ?_
  · (intro w1 hS; exact exec_build 27 _ rfl #[(0, .int .u8 (p : Int)), (1, .agg SA), (2, .agg DA), (3, .int .u16 (sp : Int)), (4, .int .u16 (dp : Int))] (by kernel_rfl) k5 BK.out)
  simp only [Act.put, tS1, tS2, tS3]
  refine tkO 18 (fun KK hK => ?_)
  rw [if_pos (by rfl)]
  refine wp_blk_store 27 (.tmp 2) (.tmp 84) rfl k5 rfl rfl HT.out Y6.out Q5.out A5.out ?_
  intro Y4 hA hF hB
  replace HS := Lib.hid (show Below w.heap.size V5 Y4 ∧ Blk Y4 (V2.heap.size) 24 SA ∧ Blk Y4 (V4.heap.size) 24 DA from ⟨HS.out.1.trans (hB _ (Nat.le_refl _)), (hF _ (by omega)).trans HS.out.2.1, (hF _ (by omega)).trans HS.out.2.2⟩)
  replace HT := Lib.hid (show Blk Y4 w.heap.size 27 k5 from hA)
  clear hA hF hB
  refine hK.out _ _ HS.out (fun _ => ?_)
  clear hK KK
  simp only [Act.put]
  refine tkA 19 (?_) ?_ HS.out ?_
  rotate_left
  · (intro w1 hS; go_simp; try with_reducible rfl)
  simp only [Act.put, tS1, tS2, tS3]
  refine wpAnyH_done (by kernel_rfl) ?_ _
  replace K := Lib.hid (K.out.trans HS.out.1)
  clear HS
  go_wp2
  have hrun := run_blk_load (P := Tryd.prog) 27 w.heap.size _ HT.out Tryd.underlying27 rfl Q5.out
  exact bodyPost_ret (results_cell_tmp 2 27 3 w.heap.size _ Tryd.results10 rfl hrun) rfl ⟨rfl, K.out⟩
set_option maxRecDepth 100000 in
set_option maxHeartbeats 4000000 in
theorem rfrom_y6_17 (x : Value) (zs : List Nat) (w : World) (h : Rd w x (nus .u8 zs)) (hb : ∀ c ∈ zs, c < 256) (h4 : zs.getD 1 0 = 6) (hl : zs.length = 38) (hp : zs.getD 0 0 = 17) :
    Calls Tryd.prog 10 #[x] w fun e w' => e = .returned (.tuple #[.agg (fF zs).cs, .bool true]) ∧ Below w.heap.size w w' := by
  have K := Lib.hid (Below.refl w.heap.size w)
  have HR := Lib.hid h
  obtain ⟨a, cap, rfl, hlc, hlm⟩ := rd_shape h
  have sz0 : k0.cs.size = 37 := k0.cs_size k0_fit
  have Y0 : Hid (k0.cs.size = Array.size (ZcK : Array Value)) := sz0
  have Q0 := Lib.hid (i42.trans (congrArg some sz0.symm))
  have A0 := Lib.hid k0.cs_all
  obtain ⟨bb, off, rfl, hc⟩ := h.cells (by omega)
  have HC1 := Lib.hid (hc 1 (by omega))
  have hbl := rd_cell (n := 1) (hc 1 (by omega))
  have HC0 := Lib.hid (hc 0 (by omega))
  rw [Nat.add_zero] at HC0
  rw [h4] at HC1
  have hv6 : v6F zs = true := by unfold v6F; rw [h4]; rfl
  have lS : ((zs.drop 2).take 16).length = 16 := by rw [List.length_take, List.length_drop, hl]; rfl
  have lD : ((zs.drop 18).take 16).length = 16 := by rw [List.length_take, List.length_drop, hl]; rfl
  have CF1 := Lib.hid (fun W z (h : Rd W z (nus .u8 ((zs.drop 2).take 16))) => rfrom_ok z true ((zs.drop 2).take 16) W h (.inr ⟨lS, rfl⟩))
  have CF2 := Lib.hid (fun W z (h : Rd W z (nus .u8 ((zs.drop 18).take 16))) => rfrom_ok z true ((zs.drop 18).take 16) W h (.inr ⟨lD, rfl⟩))
  rw [lS] at CF1
  rw [lD] at CF2
  have b1 := be_take_lt zs 34 2 hb (by omega)
  have b2 := be_take_lt zs 36 2 hb (by omega)
  have CB1 := Lib.hid (show ∀ W a c, Rd W (.slice a 38 c) (nus .u8 zs) → Calls Tryd.prog 27 #[.slice a 38 c, .int .i64 34] W fun e w' => e = .returned (.int .i64 (be ((zs.drop 34).take 2) : Nat)) ∧ Below W.heap.size W w' from fun W a c h => (be16_any a 38 c 34 zs W h hb (by omega)).mono fun e w' ⟨q1, m, q2⟩ => ⟨by rw [be_two zs 34 (by omega)]; exact q1, q2 ▸ below_drewN (Below.refl _ _) m⟩)
  have CB2 := Lib.hid (show ∀ W a c, Rd W (.slice a 38 c) (nus .u8 zs) → Calls Tryd.prog 27 #[.slice a 38 c, .int .i64 36] W fun e w' => e = .returned (.int .i64 (be ((zs.drop 36).take 2) : Nat)) ∧ Below W.heap.size W w' from fun W a c h => (be16_any a 38 c 36 zs W h hb (by omega)).mono fun e w' ⟨q1, m, q2⟩ => ⟨by rw [be_two zs 36 (by omega)]; exact q1, q2 ▸ below_drewN (Below.refl _ _) m⟩)
  have hcs : (fF zs).cs = kcells (zs.getD 0 0) (cellsA true ((zs.drop 2).take 16 ++ List.replicate (16 - 16) 0)) (cellsA true ((zs.drop 18).take 16 ++ List.replicate (16 - 16) 0)) (be ((zs.drop 34).take 2)) (be ((zs.drop 36).take 2)) := by
    unfold Fl.cs fF
    rw [hv6]
    rfl
  rw [hcs]
  have sS : (cellsA true ((zs.drop 2).take 16 ++ List.replicate (16 - 16) 0)).size = 17 := by rw [cellsA_size, List.length_append, lS, List.length_replicate]
  have sD : (cellsA true ((zs.drop 18).take 16 ++ List.replicate (16 - 16) 0)).size = 17 := by rw [cellsA_size, List.length_append, lD, List.length_replicate]
  have aS := cellsA_all true ((zs.drop 2).take 16 ++ List.replicate (16 - 16) 0)
  have aD := cellsA_all true ((zs.drop 18).take 16 ++ List.replicate (16 - 16) 0)
  unfold adr at CF1 CF2
  have R1 := Lib.hid (HR.out.sub 2 16 (by omega))
  have R2 := Lib.hid (HR.out.sub 18 16 (by omega))
  have h2 : (cap = 2) = False := eq_false (by omega)
  have h3 : (cap = 18) = False := eq_false (by omega)
  have q1 : ((18 : Nat) : Int) ≤ (cap : Int) := by omega
  have q2 : ((34 : Nat) : Int) ≤ (cap : Int) := by omega
  generalize be ((zs.drop 34).take 2) = sp at *
  generalize be ((zs.drop 36).take 2) = dp at *
  have w1 : IntKind.u16.wrap (sp : Int) = (sp : Int) := by rw [IntKind.wrap_u16]; omega
  have w2 : IntKind.u16.wrap (dp : Int) = (dp : Int) := by rw [IntKind.wrap_u16]; omega
  generalize cellsA true ((zs.drop 2).take 16 ++ List.replicate (16 - 16) 0) = SA at *
  generalize cellsA true ((zs.drop 18).take 16 ++ List.replicate (16 - 16) 0) = DA at *
  generalize zs.getD 0 0 = p at *
  have YS : Hid (SA.size = Array.size (Zc17 : Array Value)) := sS
  have YD : Hid (DA.size = Array.size (Zc17 : Array Value)) := sD
  have QS := Lib.hid (i24.trans (congrArg some sS.symm))
  have QD := Lib.hid (i24.trans (congrArg some sD.symm))
  have AS := Lib.hid aS
  have AD := Lib.hid aD
  have s5 : (kcells p SA DA sp dp).size = 37 := kcells_size _ _ _ _ _ sS sD
  have Y5 : Hid ((kcells p SA DA sp dp).size = k0.cs.size) := s5.trans sz0.symm
  have Y6 : Hid ((kcells p SA DA sp dp).size = Array.size (ZcK : Array Value)) := s5
  have Q5 := Lib.hid (i42.trans (congrArg some s5.symm))
  have A5 := Lib.hid (kcells_all p SA DA sp dp aS aD)
  have BK := Lib.hid (key_built p SA DA sp dp sS sD)
  have e6 : ((p : Int) != 6) = true := by rw [hp]; rfl
  have e17 : ((p : Int) != 17) = false := by rw [hp]; rfl
  generalize kcells p SA DA sp dp = k5 at *
  generalize (zs.drop 2).take 16 = Z1 at *
  generalize (zs.drop 18).take 16 = Z2 at *
  rw [hl] at *
  clear h hb hv6 lS lD hcs sS sD aS aD hc s5 h4 hl sz0 hp b1 b2
  unfold maxLen at hlm
  go_enter Tryd.func10, Tryd.ntmps10
  have hal := (Below.refl w.heap.size w).alloc (Nat.le_refl _) (.cells ZcK 27)
  replace K := Lib.hid (K.out.trans (hal.mono K.out.size))
  have HT := Lib.hid (Blk.new w 27 ZcK)
  clear hal
  have hc1 := (K.out.cell (p := ⟨bb, off + 1, none⟩) hbl).trans HC1.out
  have hc0 := (K.out.cell (p := ⟨bb, off, none⟩) hbl).trans HC0.out
  go_wp2_with fail
  have hzV1 : Hid ((w.alloc (.cells ZcK 27)).heap.size = w.heap.size + 1) := by show _ = _; simp only [World.size_alloc]
  generalize (w.alloc (.cells ZcK 27)) = V1 at *
  refine (CF1.out V1 _ (R1.out.below K.out)).mono ?_
  rintro e V2 ⟨rfl, hy⟩
  replace K := Lib.hid (K.out.trans (hy.mono K.out.size))
  replace HT := Lib.hid (HT.out.below hy HT.out.lt)
  clear hy
  go_wp2_with (((with_reducible refine wpList_blk_store (op := ⟨none, .store 24 (.tmp 5) (.tmp 54), _, _, _, _⟩) ?sg13 24 (.tmp 5) (.tmp 54) ?so13 (V2.heap.size) SA ?sx13 ?sy13 (Blk.new V2 24 Zc17) YS.out QS.out AS.out ?_); (case sg13 => rfl); (case so13 => rfl); (case sx13 => rfl); (case sy13 => rfl)))
  have qHTH5 : w.heap.size < V2.heap.size := HT.out.lt
  intro V3 hA hF hB
  have hy := ((Below.refl V2.heap.size V2).alloc (Nat.le_refl _) (.cells Zc17 24)).trans (hB _ (Nat.le_refl _))
  replace K := Lib.hid (K.out.trans (hy.mono K.out.size))
  replace HT := Lib.hid (HT.out.below hy HT.out.lt)
  have H5 := Lib.hid hA
  clear hA hF hB hy
  go_wp2_with fail
  refine (CF2.out V3 _ (R2.out.below K.out)).mono ?_
  rintro e V4 ⟨rfl, hy⟩
  replace K := Lib.hid (K.out.trans (hy.mono K.out.size))
  replace HT := Lib.hid (HT.out.below hy HT.out.lt)
  replace H5 := Lib.hid (H5.out.below hy H5.out.lt)
  clear hy
  go_wp2_with (((with_reducible refine wpList_blk_store (op := ⟨none, .store 24 (.tmp 7) (.tmp 65), _, _, _, _⟩) ?sg14 24 (.tmp 7) (.tmp 65) ?so14 (V4.heap.size) DA ?sx14 ?sy14 (Blk.new V4 24 Zc17) YD.out QD.out AD.out ?_); (case sg14 => rfl); (case so14 => rfl); (case sx14 => rfl); (case sy14 => rfl)))
  have qHTH7 : w.heap.size < V4.heap.size := HT.out.lt
  have qH5H7 : V2.heap.size < V4.heap.size := H5.out.lt
  intro V5 hA hF hB
  have hy := ((Below.refl V4.heap.size V4).alloc (Nat.le_refl _) (.cells Zc17 24)).trans (hB _ (Nat.le_refl _))
  replace K := Lib.hid (K.out.trans (hy.mono K.out.size))
  replace HT := Lib.hid (HT.out.below hy HT.out.lt)
  replace H5 := Lib.hid (H5.out.below hy H5.out.lt)
  have H7 := Lib.hid hA
  clear hA hF hB hy
  go_wp2_with fail
  have hrV := HR.out.below K.out
  have hc0V := (K.out.cell (p := ⟨bb, off, none⟩) hbl).trans HC0.out
  have HC9 := Lib.hid hc0V
  have n2 : w.heap.size < V5.heap.size := HT.out.lt
  refine wp_region_held (S := (fun w' : World => Below w.heap.size V5 w' ∧ Blk w' (V2.heap.size) 24 SA ∧ Blk w' (V4.heap.size) 24 DA)) (by kernel_rfl) ?_
  change wpAnyH _ _ _ _ _ _ _ _ V5.drew
  have HS : Hid (Below w.heap.size V5 V5.drew ∧ Blk V5.drew (V2.heap.size) 24 SA ∧ Blk V5.drew (V4.heap.size) 24 DA) := ⟨(Below.refl _ _).drew, H5.out.drew, H7.out.drew⟩
  replace HT := Lib.hid HT.out.drew
  have hy : Below V5.heap.size V5 V5.drew := (Below.refl _ _).drew
  have HRV := Lib.hid (hrV.below hy)
  clear hrV hy hc0V
  generalize V5.drew = Y0 at HS HRV HT ⊢
  refine tkA 0 (?_) ?_ HS.out ?_
  rotate_left
  · (intro w1 hS; go_simp; try with_reducible rfl)
  simp only [Act.put, tS1, tS2, tS3]
  refine tkA 1 (?_) ?_ HS.out ?_
  rotate_left
  · (intro w1 hS; go_simp; try with_reducible rfl)
  simp only [Act.put, tS1, tS2, tS3]
  refine tkA 2 (?_) ?_ HS.out ?_
  rotate_left
  · (intro w1 hS; have q := (hS.1.cell (p := ⟨bb, off, none⟩) hbl).trans ((show V5.cell? ⟨bb, off, none⟩ = some (.int .u8 (p : Int)) from HC9.out)); go_simp; try with_reducible rfl)
  simp only [Act.put, tS1, tS2, tS3]
  refine tkA 3 (.agg SA) ?_ HS.out ?_
  · (intro w1 hS; exact exec_load 24 (.tmp 5) rfl _ rfl _ (run_blk_load (P := Tryd.prog) 24 (V2.heap.size) _ hS.2.1 Tryd.underlying24 rfl QS.out))
  simp only [Act.put, tS1, tS2, tS3]
  refine tkA 4 (.agg DA) ?_ HS.out ?_
  · (intro w1 hS; exact exec_load 24 (.tmp 7) rfl _ rfl _ (run_blk_load (P := Tryd.prog) 24 (V4.heap.size) _ hS.2.2 Tryd.underlying24 rfl QD.out))
  simp only [Act.put, tS1, tS2, tS3]
  refine tkA 5 (?_) ?_ HS.out ?_
  rotate_left
  · (intro w1 hS; go_simp; try with_reducible rfl)
  simp only [Act.put, tS1, tS2, tS3]
  refine tkA 6 (?_) ?_ HS.out ?_
  rotate_left
  · (intro w1 hS; go_simp; try with_reducible rfl)
  simp only [Act.put, tS1, tS2, tS3]
  refine tkA 7 (?_) ?_ HS.out ?_
  rotate_left
  · (intro w1 hS; go_simp; try with_reducible rfl)
  simp only [Act.put, tS1, tS2, tS3]
  refine tkA 8 (?_) ?_ HS.out ?_
  rotate_left
  · (intro w1 hS; go_simp; try with_reducible rfl)
  simp only [Act.put, tS1, tS2, tS3]
  refine tkA 11 (?_) ?_ HS.out ?_
  rotate_left
  · (intro w1 hS; go_simp; try with_reducible rfl)
  simp only [Act.put, tS1, tS2, tS3]
  refine tkA 12 (?_) ?_ HS.out ?_
  rotate_left
  · (intro w1 hS; go_simp; try with_reducible rfl)
  simp only [Act.put, tS1, tS2, tS3]
  refine tkA 13 (?_) ?_ HS.out ?_
  rotate_left
  · (intro w1 hS; go_simp; try with_reducible rfl)
  simp only [Act.put, tS1, tS2, tS3]
  refine tkA 14 (?_) ?_ HS.out ?_
  rotate_left
  · (intro w1 hS; go_simp; try with_reducible rfl)
  simp only [Act.put, tS1, tS2, tS3]
  refine tkO 9 (fun KK hK => ?_)
  go_simp
  refine (CB1.out Y0 _ _ HRV.out).mono ?_
  rintro e Y1 ⟨rfl, hy⟩
  replace HRV := Lib.hid (HRV.out.below hy)
  replace HT := Lib.hid (HT.out.below hy HT.out.lt)
  replace HS := Lib.hid (show Below w.heap.size V5 Y1 ∧ Blk Y1 (V2.heap.size) 24 SA ∧ Blk Y1 (V4.heap.size) 24 DA from ⟨HS.out.1.trans (hy.mono (Nat.le_trans (Nat.le_of_lt n2) HS.out.1.size)), HS.out.2.1.below hy HS.out.2.1.lt, HS.out.2.2.below hy HS.out.2.2.lt⟩)
  refine hK.out _ _ HS.out (fun _ => ?_)
  clear hK KK hy
  try simp only [Act.put, tS1, tS2, tS3]
  refine tkA 10 (?_) ?_ HS.out ?_
  rotate_left
  · (intro w1 hS; go_simp; try with_reducible rfl)
  simp only [Act.put, tS1, tS2, tS3]
  refine tkO 15 (fun KK hK => ?_)
  go_simp
  refine (CB2.out Y1 _ _ HRV.out).mono ?_
  rintro e Y2 ⟨rfl, hy⟩
  replace HRV := Lib.hid (HRV.out.below hy)
  replace HT := Lib.hid (HT.out.below hy HT.out.lt)
  replace HS := Lib.hid (show Below w.heap.size V5 Y2 ∧ Blk Y2 (V2.heap.size) 24 SA ∧ Blk Y2 (V4.heap.size) 24 DA from ⟨HS.out.1.trans (hy.mono (Nat.le_trans (Nat.le_of_lt n2) HS.out.1.size)), HS.out.2.1.below hy HS.out.2.1.lt, HS.out.2.2.below hy HS.out.2.2.lt⟩)
  refine hK.out _ _ HS.out (fun _ => ?_)
  clear hK KK hy
  try simp only [Act.put, tS1, tS2, tS3]
  refine tkA 16 (?_) ?_ HS.out ?_
  rotate_left
  · (intro w1 hS; go_simp; try with_reducible rfl)
  simp only [Act.put, tS1, tS2, tS3]
  refine tkA 17 (.agg k5) ?_ HS.out ?_
  · (intro w1 hS; exact exec_build 27 _ rfl #[(0, .int .u8 (p : Int)), (1, .agg SA), (2, .agg DA), (3, .int .u16 (sp : Int)), (4, .int .u16 (dp : Int))] (by kernel_rfl) k5 BK.out)
  simp only [Act.put, tS1, tS2, tS3]
  refine tkO 18 (fun KK hK => ?_)
  rw [if_pos (by rfl)]
  refine wp_blk_store 27 (.tmp 2) (.tmp 84) rfl k5 rfl rfl HT.out Y6.out Q5.out A5.out ?_
  intro Y4 hA hF hB
  replace HS := Lib.hid (show Below w.heap.size V5 Y4 ∧ Blk Y4 (V2.heap.size) 24 SA ∧ Blk Y4 (V4.heap.size) 24 DA from ⟨HS.out.1.trans (hB _ (Nat.le_refl _)), (hF _ (by omega)).trans HS.out.2.1, (hF _ (by omega)).trans HS.out.2.2⟩)
  replace HT := Lib.hid (show Blk Y4 w.heap.size 27 k5 from hA)
  clear hA hF hB
  refine hK.out _ _ HS.out (fun _ => ?_)
  clear hK KK
  simp only [Act.put]
  refine tkA 19 (?_) ?_ HS.out ?_
  rotate_left
  · (intro w1 hS; go_simp; try with_reducible rfl)
  simp only [Act.put, tS1, tS2, tS3]
  refine wpAnyH_done (by kernel_rfl) ?_ _
  replace K := Lib.hid (K.out.trans HS.out.1)
  clear HS
  go_wp2
  have hrun := run_blk_load (P := Tryd.prog) 27 w.heap.size _ HT.out Tryd.underlying27 rfl Q5.out
  exact bodyPost_ret (results_cell_tmp 2 27 3 w.heap.size _ Tryd.results10 rfl hrun) rfl ⟨rfl, K.out⟩
theorem okF_eq (zs : List Nat) (k : Nat) (hk : k = 4 ∨ k = 6) (h4 : zs.getD 1 0 = k) : okF zs = (decide (zs.length = 6 + 2 * nF (decide (k = 6))) && (decide (zs.getD 0 0 = 6) || decide (zs.getD 0 0 = 17))) := by
  unfold okF v6F
  rw [h4]
  rcases hk with rfl | rfl <;> simp
theorem rfrom_any (x : Value) (zs : List Nat) (w : World) (h : Rd w x (nus .u8 zs)) (hb : ∀ c ∈ zs, c < 256) :
    Calls Tryd.prog 10 #[x] w fun e w' => e = .returned (.tuple #[.agg (fcs zs), .bool (okF zs)]) ∧ Below w.heap.size w w' := by
  by_cases h2 : zs.length < 2
  · have e1 : zs.getD 1 0 = 0 := by rw [List.getD_eq_getElem?_getD, List.getElem?_eq_none (by omega)]; rfl
    have ho : okF zs = false := by unfold okF; rw [e1]; rfl
    unfold fcs; rw [ho]
    exact rfrom_short x zs w h h2
  by_cases h4 : zs.getD 1 0 = 4
  · have q := okF_eq zs 4 (.inl rfl) h4
    by_cases hl : zs.length = 14
    · rcases p_cases (zs.getD 0 0) with hp | hp | hp
      · have ho : okF zs = true := by rw [q, hl, hp]; rfl
        unfold fcs; rw [ho]; exact rfrom_y4_6 x zs w h hb h4 hl hp
      · have ho : okF zs = true := by rw [q, hl, hp]; rfl
        unfold fcs; rw [ho]; exact rfrom_y4_17 x zs w h hb h4 hl hp
      · have ho : okF zs = false := by rw [q, decide_eq_false hp.1, decide_eq_false hp.2]; simp
        unfold fcs; rw [ho]; exact rfrom_p4 x zs w h h4 hl hp
    · have ho : okF zs = false := by rw [q, decide_eq_false (show ¬ zs.length = 6 + 2 * nF (decide (4 = 6)) from hl)]; rfl
      unfold fcs; rw [ho]; exact rfrom_len4 x zs w h (by omega) h4 hl
  by_cases h6 : zs.getD 1 0 = 6
  · have q := okF_eq zs 6 (.inr rfl) h6
    by_cases hl : zs.length = 38
    · rcases p_cases (zs.getD 0 0) with hp | hp | hp
      · have ho : okF zs = true := by rw [q, hl, hp]; rfl
        unfold fcs; rw [ho]; exact rfrom_y6_6 x zs w h hb h6 hl hp
      · have ho : okF zs = true := by rw [q, hl, hp]; rfl
        unfold fcs; rw [ho]; exact rfrom_y6_17 x zs w h hb h6 hl hp
      · have ho : okF zs = false := by rw [q, decide_eq_false hp.1, decide_eq_false hp.2]; simp
        unfold fcs; rw [ho]; exact rfrom_p6 x zs w h h6 hl hp
    · have ho : okF zs = false := by rw [q, decide_eq_false (show ¬ zs.length = 6 + 2 * nF (decide (6 = 6)) from hl)]; rfl
      unfold fcs; rw [ho]; exact rfrom_len6 x zs w h (by omega) h6 hl
  · have ho : okF zs = false := by unfold okF; rw [decide_eq_false h4, decide_eq_false h6]; rfl
    unfold fcs; rw [ho]
    exact rfrom_kind x zs w h (by omega) h4 h6
end Go.Proofs.YthkaadcgiplolaaDoor
