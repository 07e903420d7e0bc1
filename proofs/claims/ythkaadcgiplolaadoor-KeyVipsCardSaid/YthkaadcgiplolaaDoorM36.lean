/- Texts that the walks of this seat lean on, put together. -/
import Derived.Deep.CutBlock
import Derived.Test.YthkaadcgiplolaaDoorTk
import Derived.Test.YthkaadcgiplolaaDoorM14
import Derived.Test.YthkaadcgiplolaaDoorM26
import Derived.Test.YthkaadcgiplolaaDoorM35
namespace Go.Proofs.YthkaadcgiplolaaDoor
open Go.RowKit
theorem shape4 (zs : List Nat) (hl : zs.length = 14) (h4 : zs.getD 1 0 = 4) : ∃ p a0 a1 a2 a3 c0 c1 c2 c3 x0 x1 y0 y1, zs = [p, 4, a0, a1, a2, a3, c0, c1, c2, c3, x0, x1, y0, y1] := by
  obtain ⟨a0, a1, a2, a3, a4, a5, a6, a7, a8, a9, a10, a11, a12, a13, rfl⟩ := list14 zs hl
  obtain rfl : a1 = 4 := h4
  exact ⟨a0, a2, a3, a4, a5, a6, a7, a8, a9, a10, a11, a12, a13, rfl⟩
theorem shape6 (zs : List Nat) (hl : zs.length = 38) (h6 : zs.getD 1 0 = 6) : ∃ p S D x0 x1 y0 y1, S.length = 16 ∧ D.length = 16 ∧ zs = p :: 6 :: (S ++ (D ++ [x0, x1, y0, y1])) := by
  match zs, hl with
  | p :: q :: r, hl =>
    obtain rfl : q = 6 := h6
    have hr : r.length = 36 := by simpa using hl
    obtain ⟨x0, x1, y0, y1, hq⟩ := list4 (r.drop 32) (by rw [List.length_drop, hr])
    refine ⟨p, r.take 16, (r.drop 16).take 16, x0, x1, y0, y1, by rw [List.length_take, hr]; rfl, by rw [List.length_take, List.length_drop, hr]; rfl, ?_⟩
    rw [← hq, show r.drop 32 = (r.drop 16).drop 16 from by rw [List.drop_drop], List.take_append_drop, List.take_append_drop]
theorem fF_four' (zs : List Nat) (hl : zs.length = 14) (h4 : zs.getD 1 0 = 4) (hb : ∀ c ∈ zs, c < 256) : (fF zs).Fit ∧ vK (fF zs) = okF zs := by
  obtain ⟨p, a0, a1, a2, a3, c0, c1, c2, c3, x0, x1, y0, y1, rfl⟩ := shape4 zs hl h4
  simp only [List.mem_cons, List.not_mem_nil, or_false, forall_eq_or_imp, forall_eq] at hb
  obtain ⟨b0, -, b2, b3, b4, b5, b6, b7, b8, b9, b10, b11, b12, b13⟩ := hb
  rw [fF_four]
  refine ⟨⟨b0, rfl, rfl, by intro n hn; simp at hn; omega, by intro n hn; simp at hn; omega, by show x0 * 256 + x1 < 65536; omega, by show y0 * 256 + y1 < 65536; omega⟩, ?_⟩
  show ((decide (p = 6) || decide (p = 17)) && _) = (_ && (_ && (decide (p = 6) || decide (p = 17))))
  generalize (decide (p = 6) || decide (p = 17)) = q
  cases q <;> rfl
theorem fF_six' (zs : List Nat) (hl : zs.length = 38) (h6 : zs.getD 1 0 = 6) (hb : ∀ c ∈ zs, c < 256) : (fF zs).Fit ∧ vK (fF zs) = okF zs := by
  have hv : v6F zs = true := by unfold v6F; rw [h6]; rfl
  have ho : okF zs = (decide (zs.getD 0 0 = 6) || decide (zs.getD 0 0 = 17)) := by unfold okF; rw [hv, hl, h6]; rfl
  rw [ho]
  obtain ⟨p, S, D, x0, x1, y0, y1, hS, hD, rfl⟩ := shape6 zs hl h6
  rw [fF_sixp _ _ _ _ _ _ _ hS hD]
  have hbS : ∀ c ∈ S, c < 256 := fun c hc => hb c (by simp [hc])
  have hbD : ∀ c ∈ D, c < 256 := fun c hc => hb c (by simp [hc])
  have b0 := hb p (by simp)
  have b1 := hb x0 (by simp)
  have b2 := hb x1 (by simp)
  have b3 := hb y0 (by simp)
  have b4 := hb y1 (by simp)
  refine ⟨⟨b0, hS, hD, hbS, hbD, by show x0 * 256 + x1 < 65536; omega, by show y0 * 256 + y1 < 65536; omega⟩, ?_⟩
  show ((decide (p = 6) || decide (p = 17)) && _) = (decide (p = 6) || decide (p = 17))
  generalize (decide (p = 6) || decide (p = 17)) = q
  cases q <;> rfl
def cz : Array Value := cellsA false z16
theorem st_src (p : Nat) (S : Array Value) (h : S.size = 17) : setL (kcells p cz cz 0 0) 1 S.toList = kcells p S cz 0 0 := by
  obtain ⟨x0, x1, x2, x3, x4, x5, x6, x7, x8, x9, x10, x11, x12, x13, x14, x15, x16, rfl⟩ := cells17 S h
  kernel_rfl
theorem st_dst (p : Nat) (S D : Array Value) (h : S.size = 17) (hD : D.size = 17) : setL (kcells p S cz 0 0) 18 D.toList = kcells p S D 0 0 := by
  obtain ⟨x0, x1, x2, x3, x4, x5, x6, x7, x8, x9, x10, x11, x12, x13, x14, x15, x16, rfl⟩ := cells17 S h
  obtain ⟨y0, y1, y2, y3, y4, y5, y6, y7, y8, y9, y10, y11, y12, y13, y14, y15, y16, rfl⟩ := cells17 D hD
  kernel_rfl
theorem st_sp (p : Nat) (S D : Array Value) (sp : Nat) (h : S.size = 17) (hD : D.size = 17) : (kcells p S D 0 0).setIfInBounds 35 (.int .u16 (sp : Int)) = kcells p S D sp 0 := by
  obtain ⟨x0, x1, x2, x3, x4, x5, x6, x7, x8, x9, x10, x11, x12, x13, x14, x15, x16, rfl⟩ := cells17 S h
  obtain ⟨y0, y1, y2, y3, y4, y5, y6, y7, y8, y9, y10, y11, y12, y13, y14, y15, y16, rfl⟩ := cells17 D hD
  kernel_rfl
theorem st_dp (p : Nat) (S D : Array Value) (sp dp : Nat) (h : S.size = 17) (hD : D.size = 17) : (kcells p S D sp 0).setIfInBounds 36 (.int .u16 (dp : Int)) = kcells p S D sp dp := by
  obtain ⟨x0, x1, x2, x3, x4, x5, x6, x7, x8, x9, x10, x11, x12, x13, x14, x15, x16, rfl⟩ := cells17 S h
  obtain ⟨y0, y1, y2, y3, y4, y5, y6, y7, y8, y9, y10, y11, y12, y13, y14, y15, y16, rfl⟩ := cells17 D hD
  kernel_rfl
theorem k_at (p : Nat) (S D : Array Value) (sp dp : Nat) (h : S.size = 17) (hD : D.size = 17) : (kcells p S D sp dp)[35]? = some (.int .u16 (sp : Int)) ∧ (kcells p S D sp dp)[36]? = some (.int .u16 (dp : Int)) := by
  obtain ⟨x0, x1, x2, x3, x4, x5, x6, x7, x8, x9, x10, x11, x12, x13, x14, x15, x16, rfl⟩ := cells17 S h
  obtain ⟨y0, y1, y2, y3, y4, y5, y6, y7, y8, y9, y10, y11, y12, y13, y14, y15, y16, rfl⟩ := cells17 D hD
  exact ⟨rfl, rfl⟩
set_option maxRecDepth 100000 in
set_option maxHeartbeats 4000000 in
theorem kfrom_kind (x : Value) (zs : List Nat) (w : World) (h : Rd w x (nus .u8 zs)) (h1 : (decide (zs.getD 1 0 = 4) || decide (zs.getD 1 0 = 6)) = false) :
    Calls Tryd.prog 9 #[x] w fun e w' => e = .returned (.tuple #[.agg k0.cs, .int .i64 2]) ∧ Below w.heap.size w w' := by
  have K := Lib.hid (Below.refl w.heap.size w)
  have HR := Lib.hid h
  obtain ⟨a, cap, rfl, hlc, hlm⟩ := rd_shape h
  have sz0 : k0.cs.size = 37 := k0.cs_size k0_fit
  have Y0 : Hid (k0.cs.size = Array.size (ZcK : Array Value)) := sz0
  have Q0 := Lib.hid (i42.trans (congrArg some sz0.symm))
  have A0 := Lib.hid k0.cs_all
  have CA := Lib.hid (fun W x (h : Rd W x (nus .u8 zs)) => addrSize_any x zs W h)
  rw [h1] at CA
  generalize (if zs.getD 1 0 = 4 then 4 else if zs.getD 1 0 = 6 then 16 else 0 : Nat) = sz at *
  clear h h1 sz0 hlc hlm
  go_enter Tryd.func9, Tryd.ntmps9
  have hal := (Below.refl w.heap.size w).alloc (Nat.le_refl _) (.cells ZcK 27)
  replace K := Lib.hid (K.out.trans (hal.mono K.out.size))
  have HT := Lib.hid (Blk.new w 27 ZcK)
  clear hal
  go_wp2_with fail
  have hzV1 : Hid ((w.alloc (.cells ZcK 27)).heap.size = w.heap.size + 1) := by show _ = _; simp only [World.size_alloc]
  generalize (w.alloc (.cells ZcK 27)) = V1 at *
  refine (CA.out V1 _ (HR.out.below K.out)).mono ?_
  rintro e V2 ⟨rfl, rfl⟩
  go_wp2_with (((with_reducible refine wpList_blk_store (op := ⟨none, .store 27 (.tmp 2) (.tmp 25), _, _, _, _⟩) ?sg1 27 (.tmp 2) (.tmp 25) ?so1 (w.heap.size) k0.cs ?sx1 ?sy1 HT.out Y0.out Q0.out A0.out ?_); (case sg1 => rfl); (case so1 => rfl); (case sx1 => rfl); (case sy1 => rfl)))
  intro V3 hA hF hB
  replace K := Lib.hid (K.out.trans (hB _ (by omega)))
  replace HT := Lib.hid hA
  clear hA hF hB
  go_wp2
  have hrun := run_blk_load (P := Tryd.prog) 27 w.heap.size _ HT.out Tryd.underlying27 rfl Q0.out
  exact bodyPost_ret (results_cell_tmp 2 27 3 w.heap.size _ Tryd.results9 rfl hrun) rfl ⟨rfl, K.out⟩
set_option maxRecDepth 100000 in
set_option maxHeartbeats 4000000 in
theorem kfrom_len (x : Value) (zs : List Nat) (w : World) (h : Rd w x (nus .u8 zs)) (sz : Nat) (h1 : (if zs.getD 1 0 = 4 then 4 else if zs.getD 1 0 = 6 then 16 else 0 : Nat) = sz) (h2 : (decide (zs.getD 1 0 = 4) || decide (zs.getD 1 0 = 6)) = true) (h3 : sz ≤ 16) (h4 : zs.length ≠ 6 + 2 * sz) :
    Calls Tryd.prog 9 #[x] w fun e w' => e = .returned (.tuple #[.agg k0.cs, .int .i64 2]) ∧ Below w.heap.size w w' := by
  have K := Lib.hid (Below.refl w.heap.size w)
  have HR := Lib.hid h
  obtain ⟨a, cap, rfl, hlc, hlm⟩ := rd_shape h
  have sz0 : k0.cs.size = 37 := k0.cs_size k0_fit
  have Y0 : Hid (k0.cs.size = Array.size (ZcK : Array Value)) := sz0
  have Q0 := Lib.hid (i42.trans (congrArg some sz0.symm))
  have A0 := Lib.hid k0.cs_all
  have CA := Lib.hid (fun W x (h : Rd W x (nus .u8 zs)) => addrSize_any x zs W h)
  rw [h1, h2] at CA
  generalize zs.length = n at *
  have g1 : ((n : Int) != 2 + 2 * (sz : Int) + 4) = true := by rw [bne_iff_ne]; omega
  clear h h1 h2 sz0 hlc hlm h4
  go_enter Tryd.func9, Tryd.ntmps9
  have hal := (Below.refl w.heap.size w).alloc (Nat.le_refl _) (.cells ZcK 27)
  replace K := Lib.hid (K.out.trans (hal.mono K.out.size))
  have HT := Lib.hid (Blk.new w 27 ZcK)
  clear hal
  go_wp2_with fail
  have hzV1 : Hid ((w.alloc (.cells ZcK 27)).heap.size = w.heap.size + 1) := by show _ = _; simp only [World.size_alloc]
  generalize (w.alloc (.cells ZcK 27)) = V1 at *
  refine (CA.out V1 _ (HR.out.below K.out)).mono ?_
  rintro e V2 ⟨rfl, rfl⟩
  go_wp2_with (((with_reducible refine wpList_blk_store (op := ⟨none, .store 27 (.tmp 2) (.tmp 25), _, _, _, _⟩) ?sg2 27 (.tmp 2) (.tmp 25) ?so2 (w.heap.size) k0.cs ?sx2 ?sy2 HT.out Y0.out Q0.out A0.out ?_); (case sg2 => rfl); (case so2 => rfl); (case sx2 => rfl); (case sy2 => rfl)))
  intro V3 hA hF hB
  replace K := Lib.hid (K.out.trans (hB _ (by omega)))
  replace HT := Lib.hid hA
  clear hA hF hB
  go_wp2
  have hrun := run_blk_load (P := Tryd.prog) 27 w.heap.size _ HT.out Tryd.underlying27 rfl Q0.out
  exact bodyPost_ret (results_cell_tmp 2 27 3 w.heap.size _ Tryd.results9 rfl hrun) rfl ⟨rfl, K.out⟩
set_option maxRecDepth 100000 in
set_option maxHeartbeats 4000000 in
theorem kfrom_four_yes (x : Value) (zs : List Nat) (w : World) (h : Rd w x (nus .u8 zs)) (hb : ∀ c ∈ zs, c < 256) (h4 : zs.getD 1 0 = 4) (hl : zs.length = 14) (ho : okF zs = true) :
    Calls Tryd.prog 9 #[x] w fun e w' => e = .returned (.tuple #[.agg (fF zs).cs, .int .i64 0]) ∧ Below w.heap.size w w' := by
  have K := Lib.hid (Below.refl w.heap.size w)
  have HR := Lib.hid h
  obtain ⟨a, cap, rfl, hlc, hlm⟩ := rd_shape h
  have sz0 : k0.cs.size = 37 := k0.cs_size k0_fit
  have Y0 : Hid (k0.cs.size = Array.size (ZcK : Array Value)) := sz0
  have Q0 := Lib.hid (i42.trans (congrArg some sz0.symm))
  have A0 := Lib.hid k0.cs_all
  have CA := Lib.hid (fun W x (h : Rd W x (nus .u8 zs)) => addrSize_any x zs W h)
  rw [h4] at CA
  obtain ⟨hF, hV⟩ := fF_four' zs hl h4 hb
  rw [ho] at hV
  have hv6 : v6F zs = false := by unfold v6F; rw [h4]; rfl
  have lS : ((zs.drop 2).take 4).length = 4 := by rw [List.length_take, List.length_drop, hl]; rfl
  have lD : ((zs.drop 6).take 4).length = 4 := by rw [List.length_take, List.length_drop, hl]; rfl
  have CF1 := Lib.hid (fun W z (h : Rd W z (nus .u8 ((zs.drop 2).take 4))) => from_ok z false ((zs.drop 2).take 4) W h (.inl ⟨lS, rfl⟩))
  have CF2 := Lib.hid (fun W z (h : Rd W z (nus .u8 ((zs.drop 6).take 4))) => from_ok z false ((zs.drop 6).take 4) W h (.inl ⟨lD, rfl⟩))
  rw [lS] at CF1
  rw [lD] at CF2
  have CG1 := Lib.hid (show ∀ W z, Rd W z (nus .u8 zs) → Calls Tryd.prog 25 #[z, .int .i64 10] W fun e w' => e = .returned (.tuple #[.int .u16 (be ((zs.drop 10).take 2) : Nat), .bool true]) ∧ W = w' from fun W z h => get16_yes z 10 zs W h hb (by omega))
  have CG2 := Lib.hid (show ∀ W z, Rd W z (nus .u8 zs) → Calls Tryd.prog 25 #[z, .int .i64 12] W fun e w' => e = .returned (.tuple #[.int .u16 (be ((zs.drop 12).take 2) : Nat), .bool true]) ∧ W = w' from fun W z h => get16_yes z 12 zs W h hb (by omega))
  have CV := Lib.hid (fun W => kvalid_any (fF zs) hF W)
  rw [hV] at CV
  have hcs : (fF zs).cs = kcells (zs.getD 0 0) (cellsA false ((zs.drop 2).take 4 ++ List.replicate (16 - 4) 0)) (cellsA false ((zs.drop 6).take 4 ++ List.replicate (16 - 4) 0)) (be ((zs.drop 10).take 2)) (be ((zs.drop 12).take 2)) := by
    unfold Fl.cs fF
    rw [hv6]
    rfl
  rw [hcs] at CV
  rw [hcs]
  have sS : (cellsA false ((zs.drop 2).take 4 ++ List.replicate (16 - 4) 0)).size = 17 := by rw [cellsA_size, List.length_append, lS, List.length_replicate]
  have sD : (cellsA false ((zs.drop 6).take 4 ++ List.replicate (16 - 4) 0)).size = 17 := by rw [cellsA_size, List.length_append, lD, List.length_replicate]
  have aS := cellsA_all false ((zs.drop 2).take 4 ++ List.replicate (16 - 4) 0)
  have aD := cellsA_all false ((zs.drop 6).take 4 ++ List.replicate (16 - 4) 0)
  unfold adr at CF1 CF2
  obtain ⟨bb, off, rfl, hc⟩ := h.cells (by omega)
  have R1 := Lib.hid (HR.out.sub 2 4 (by omega))
  have R2 := Lib.hid (HR.out.sub 6 4 (by omega))
  have HC0 := Lib.hid (hc 0 (by omega))
  rw [Nat.add_zero] at HC0
  have h2 : (cap = 2) = False := eq_false (by omega)
  have h3 : (cap = 6) = False := eq_false (by omega)
  have hbl := rd_cell (n := 0) (hc 0 (by omega))
  have q1 : ((6 : Nat) : Int) ≤ (cap : Int) := by omega
  have q2 : ((10 : Nat) : Int) ≤ (cap : Int) := by omega
  generalize be ((zs.drop 10).take 2) = sp at *
  generalize be ((zs.drop 12).take 2) = dp at *
  generalize cellsA false ((zs.drop 2).take 4 ++ List.replicate (16 - 4) 0) = SA at *
  generalize cellsA false ((zs.drop 6).take 4 ++ List.replicate (16 - 4) 0) = DA at *
  generalize zs.getD 0 0 = p at *
  have QS := Lib.hid (i24.trans (congrArg some sS.symm))
  have QD := Lib.hid (i24.trans (congrArg some sD.symm))
  have AS := Lib.hid aS
  have AD := Lib.hid aD
  have HS := Lib.hid (st_src p SA sS)
  have HD := Lib.hid (st_dst p SA DA sS sD)
  have HP := Lib.hid (st_sp p SA DA sp sS sD)
  have HQ := Lib.hid (st_dp p SA DA sp dp sS sD)
  have s1 : (kcells p cz cz 0 0).size = 37 := kcells_size _ _ _ _ _ rfl rfl
  have s2 : (kcells p SA cz 0 0).size = 37 := kcells_size _ _ _ _ _ sS rfl
  have s5 : (kcells p SA DA sp dp).size = 37 := kcells_size _ _ _ _ _ sS sD
  have P1 := Lib.hid (show 1 + SA.size ≤ (kcells p cz cz 0 0).size by rw [s1, sS]; omega)
  have P2 := Lib.hid (show 18 + DA.size ≤ (kcells p SA cz 0 0).size by rw [s2, sD]; omega)
  have Y1 : Hid ((kcells p cz cz 0 0).size = Array.size (ZcK : Array Value)) := s1
  have Q1 := Lib.hid (i42.trans (congrArg some s1.symm))
  have A1 := Lib.hid (kcells_all p cz cz 0 0 (cellsA_all _ _) (cellsA_all _ _))
  have Y5 : Hid ((kcells p SA DA sp dp).size = Array.size (ZcK : Array Value)) := s5
  have Q5 := Lib.hid (i42.trans (congrArg some s5.symm))
  have A5 := Lib.hid (kcells_all p SA DA sp dp aS aD)
  have c35 := Lib.hid (k_at p SA DA 0 0 sS sD).1
  have c36 := Lib.hid (k_at p SA DA sp 0 sS sD).2
  have h5 : Hid (.agg #[Value.int .u8 (p : Int), .bool false, .int .u8 0, .int .u8 0, .int .u8 0, .int .u8 0, .int .u8 0, .int .u8 0, .int .u8 0, .int .u8 0, .int .u8 0, .int .u8 0, .int .u8 0, .int .u8 0, .int .u8 0, .int .u8 0, .int .u8 0, .int .u8 0, .bool false, .int .u8 0, .int .u8 0, .int .u8 0, .int .u8 0, .int .u8 0, .int .u8 0, .int .u8 0, .int .u8 0, .int .u8 0, .int .u8 0, .int .u8 0, .int .u8 0, .int .u8 0, .int .u8 0, .int .u8 0, .int .u8 0, .int .u16 0, .int .u16 0] = Value.agg (kcells p cz cz 0 0)) := rfl
  generalize kcells p cz cz 0 0 = k1 at *
  generalize kcells p SA cz 0 0 = k2 at *
  generalize kcells p SA DA 0 0 = k3 at *
  generalize kcells p SA DA sp 0 = k4 at *
  generalize kcells p SA DA sp dp = k5 at *
  generalize (zs.drop 2).take 4 = Z1 at *
  generalize (zs.drop 6).take 4 = Z2 at *
  rw [hl] at *
  clear h hb hF hV hv6 lS lD hcs sS sD aS aD hc s1 s2 s5 h4 ho hl sz0
  unfold maxLen at hlm
  go_enter Tryd.func9, Tryd.ntmps9
  have hal := (Below.refl w.heap.size w).alloc (Nat.le_refl _) (.cells ZcK 27)
  replace K := Lib.hid (K.out.trans (hal.mono K.out.size))
  have HT := Lib.hid (Blk.new w 27 ZcK)
  clear hal
  go_wp2_with fail
  have hzV1 : Hid ((w.alloc (.cells ZcK 27)).heap.size = w.heap.size + 1) := by show _ = _; simp only [World.size_alloc]
  generalize (w.alloc (.cells ZcK 27)) = V1 at *
  refine (CA.out V1 _ (HR.out.below K.out)).mono ?_
  rintro e V2 ⟨rfl, rfl⟩
  have hc0 := (K.out.cell (p := ⟨bb, off, none⟩) hbl).trans HC0.out
  go_wp2_with (((with_reducible refine wpList_blk_store (op := ⟨none, .store 27 (.tmp 8) (.tmp 34), _, _, _, _⟩) ?sg3 27 (.tmp 8) (.tmp 34) ?so3 (V1.heap.size) k1 ?sx3 ?sy3 (Blk.new V1 27 ZcK) Y1.out Q1.out A1.out ?_); (case sg3 => rfl); (case so3 => rfl); (case sx3 => rfl); (case sy3 => exact h5.out)))
  have qHTNK : w.heap.size < V1.heap.size := HT.out.lt
  intro V3 hA hF hB
  have hy := ((Below.refl V1.heap.size V1).alloc (Nat.le_refl _) (.cells ZcK 27)).trans (hB _ (Nat.le_refl _))
  replace K := Lib.hid (K.out.trans (hy.mono K.out.size))
  replace HT := Lib.hid (HT.out.below hy HT.out.lt)
  have NK := Lib.hid hA
  clear hA hF hB hy hc0
  go_wp2_with fail
  refine (CF1.out V3 _ (R1.out.below K.out)).mono ?_
  rintro e V4 ⟨rfl, hy⟩
  replace K := Lib.hid (K.out.trans (hy.mono K.out.size))
  replace HT := Lib.hid (HT.out.below hy HT.out.lt)
  replace NK := Lib.hid (NK.out.below hy NK.out.lt)
  clear hy
  go_wp2_with (((with_reducible refine wpList_part_store (op := ⟨none, .store 24 (.tmp 42) (.tmp 40), _, _, _, _⟩) ?pg4 24 (.tmp 42) (.tmp 40) ?po4 1 SA ?px4 ?py4 NK.out P1.out QS.out AS.out ?_); (case pg4 => rfl); (case po4 => rfl); (case px4 => rfl); (case py4 => rfl)))
  intro V5 hA hF hB
  replace K := Lib.hid (K.out.trans (hB _ (by omega)))
  replace HT := Lib.hid (show Blk _ _ _ _ from (hF _ (by omega)).trans HT.out)
  rw [HS.out] at hA
  replace NK := Lib.hid hA
  clear hA hF hB
  go_wp2_with fail
  refine (CF2.out V5 _ (R2.out.below K.out)).mono ?_
  rintro e V6 ⟨rfl, hy⟩
  replace K := Lib.hid (K.out.trans (hy.mono K.out.size))
  replace HT := Lib.hid (HT.out.below hy HT.out.lt)
  replace NK := Lib.hid (NK.out.below hy NK.out.lt)
  clear hy
  go_wp2_with (((with_reducible refine wpList_part_store (op := ⟨none, .store 24 (.tmp 51) (.tmp 49), _, _, _, _⟩) ?pg5 24 (.tmp 51) (.tmp 49) ?po5 18 DA ?px5 ?py5 NK.out P2.out QD.out AD.out ?_); (case pg5 => rfl); (case po5 => rfl); (case px5 => rfl); (case py5 => rfl)))
  intro V7 hA hF hB
  replace K := Lib.hid (K.out.trans (hB _ (by omega)))
  replace HT := Lib.hid (show Blk _ _ _ _ from (hF _ (by omega)).trans HT.out)
  rw [HD.out] at hA
  replace NK := Lib.hid hA
  clear hA hF hB
  go_wp2_with fail
  refine (CG1.out V7 _ (HR.out.below K.out)).mono ?_
  rintro e V8 ⟨rfl, rfl⟩
  have hk35 := (NK.out.cell 35).trans c35.out
  have hf35 := NK.out.frozen 35
  go_upto_region 9 with fail
  clear hk35 hf35
  have hA := NK.out.set_ 35 (.int .u16 (sp : Int))
  rw [HP.out] at hA
  replace K := Lib.hid (K.out.setCell (p := ⟨V1.heap.size, 35, none⟩) (by show _ ≤ V1.heap.size; omega) (.int .u16 (sp : Int)))
  replace HT := Lib.hid (HT.out.far (p := ⟨V1.heap.size, 35, none⟩) (by show _ ≠ V1.heap.size; omega) (.int .u16 (sp : Int)))
  replace NK := Lib.hid hA
  clear hA
  generalize V7.setCell ⟨V1.heap.size, 35, none⟩ (.int .u16 (sp : Int)) = V9 at *
  go_wp2_with fail
  refine (CG2.out V9 _ (HR.out.below K.out)).mono ?_
  rintro e V10 ⟨rfl, rfl⟩
  have hk36 := (NK.out.cell 36).trans c36.out
  have hf36 := NK.out.frozen 36
  go_upto_region 10 with fail
  clear hk36 hf36
  have hA := NK.out.set_ 36 (.int .u16 (dp : Int))
  rw [HQ.out] at hA
  replace K := Lib.hid (K.out.setCell (p := ⟨V1.heap.size, 36, none⟩) (by show _ ≤ V1.heap.size; omega) (.int .u16 (dp : Int)))
  replace HT := Lib.hid (HT.out.far (p := ⟨V1.heap.size, 36, none⟩) (by show _ ≠ V1.heap.size; omega) (.int .u16 (dp : Int)))
  replace NK := Lib.hid hA
  clear hA
  generalize V9.setCell ⟨V1.heap.size, 36, none⟩ (.int .u16 (dp : Int)) = V11 at *
  have L6 : (loadVar 27 ⟨V1.heap.size, 0, none⟩).run Tryd.prog V11 = .ok (.agg k5) V11 := run_blk_load (P := Tryd.prog) 27 (V1.heap.size) _ NK.out Tryd.underlying27 rfl Q5.out
  replace L6 := Lib.hid L6
  go_wp2_with (((with_reducible refine wpList_load_want (op := ⟨some 67, .load 27 (.tmp 8), _, _, _, _⟩) ?wg6 27 (.tmp 8) ?wo6 ⟨V1.heap.size, 0, none⟩ ?wx6 (.agg k5) L6.out ?_); (case wg6 => rfl); (case wo6 => rfl); (case wx6 => rfl)))
  clear L6
  refine (CV.out V11).mono ?_
  rintro e V12 ⟨rfl, hy⟩
  replace K := Lib.hid (K.out.trans (hy.mono K.out.size))
  replace HT := Lib.hid (HT.out.below hy HT.out.lt)
  replace NK := Lib.hid (NK.out.below hy NK.out.lt)
  clear hy
  have L7 : (loadVar 27 ⟨V1.heap.size, 0, none⟩).run Tryd.prog V12 = .ok (.agg k5) V12 := run_blk_load (P := Tryd.prog) 27 (V1.heap.size) _ NK.out Tryd.underlying27 rfl Q5.out
  replace L7 := Lib.hid L7
  go_wp2_with (first | ((with_reducible refine wpList_load_want (op := ⟨some 71, .load 27 (.tmp 8), _, _, _, _⟩) ?wg7 27 (.tmp 8) ?wo7 ⟨V1.heap.size, 0, none⟩ ?wx7 (.agg k5) L7.out ?_); (case wg7 => rfl); (case wo7 => rfl); (case wx7 => rfl)) | ((with_reducible refine wpList_blk_store (op := ⟨none, .store 27 (.tmp 2) (.tmp 71), _, _, _, _⟩) ?sg8 27 (.tmp 2) (.tmp 71) ?so8 (w.heap.size) k5 ?sx8 ?sy8 HT.out Y5.out Q5.out A5.out ?_); (case sg8 => rfl); (case so8 => rfl); (case sx8 => rfl); (case sy8 => rfl)))
  clear L7
  intro V13 hA hF hB
  replace K := Lib.hid (K.out.trans (hB _ (by omega)))
  replace NK := Lib.hid (show Blk _ _ _ _ from (hF _ (by omega)).trans NK.out)
  replace HT := Lib.hid hA
  clear hA hF hB
  go_wp2
  have hrun := run_blk_load (P := Tryd.prog) 27 w.heap.size _ HT.out Tryd.underlying27 rfl Q5.out
  exact bodyPost_ret (results_cell_tmp 2 27 3 w.heap.size _ Tryd.results9 rfl hrun) rfl ⟨rfl, K.out⟩
set_option maxRecDepth 100000 in
set_option maxHeartbeats 4000000 in
theorem kfrom_four_no (x : Value) (zs : List Nat) (w : World) (h : Rd w x (nus .u8 zs)) (hb : ∀ c ∈ zs, c < 256) (h4 : zs.getD 1 0 = 4) (hl : zs.length = 14) (ho : okF zs = false) :
    Calls Tryd.prog 9 #[x] w fun e w' => e = .returned (.tuple #[.agg k0.cs, .int .i64 2]) ∧ Below w.heap.size w w' := by
  have K := Lib.hid (Below.refl w.heap.size w)
  have HR := Lib.hid h
  obtain ⟨a, cap, rfl, hlc, hlm⟩ := rd_shape h
  have sz0 : k0.cs.size = 37 := k0.cs_size k0_fit
  have Y0 : Hid (k0.cs.size = Array.size (ZcK : Array Value)) := sz0
  have Q0 := Lib.hid (i42.trans (congrArg some sz0.symm))
  have A0 := Lib.hid k0.cs_all
  have CA := Lib.hid (fun W x (h : Rd W x (nus .u8 zs)) => addrSize_any x zs W h)
  rw [h4] at CA
  obtain ⟨hF, hV⟩ := fF_four' zs hl h4 hb
  rw [ho] at hV
  have hv6 : v6F zs = false := by unfold v6F; rw [h4]; rfl
  have lS : ((zs.drop 2).take 4).length = 4 := by rw [List.length_take, List.length_drop, hl]; rfl
  have lD : ((zs.drop 6).take 4).length = 4 := by rw [List.length_take, List.length_drop, hl]; rfl
  have CF1 := Lib.hid (fun W z (h : Rd W z (nus .u8 ((zs.drop 2).take 4))) => from_ok z false ((zs.drop 2).take 4) W h (.inl ⟨lS, rfl⟩))
  have CF2 := Lib.hid (fun W z (h : Rd W z (nus .u8 ((zs.drop 6).take 4))) => from_ok z false ((zs.drop 6).take 4) W h (.inl ⟨lD, rfl⟩))
  rw [lS] at CF1
  rw [lD] at CF2
  have CG1 := Lib.hid (show ∀ W z, Rd W z (nus .u8 zs) → Calls Tryd.prog 25 #[z, .int .i64 10] W fun e w' => e = .returned (.tuple #[.int .u16 (be ((zs.drop 10).take 2) : Nat), .bool true]) ∧ W = w' from fun W z h => get16_yes z 10 zs W h hb (by omega))
  have CG2 := Lib.hid (show ∀ W z, Rd W z (nus .u8 zs) → Calls Tryd.prog 25 #[z, .int .i64 12] W fun e w' => e = .returned (.tuple #[.int .u16 (be ((zs.drop 12).take 2) : Nat), .bool true]) ∧ W = w' from fun W z h => get16_yes z 12 zs W h hb (by omega))
  have CV := Lib.hid (fun W => kvalid_any (fF zs) hF W)
  rw [hV] at CV
  have hcs : (fF zs).cs = kcells (zs.getD 0 0) (cellsA false ((zs.drop 2).take 4 ++ List.replicate (16 - 4) 0)) (cellsA false ((zs.drop 6).take 4 ++ List.replicate (16 - 4) 0)) (be ((zs.drop 10).take 2)) (be ((zs.drop 12).take 2)) := by
    unfold Fl.cs fF
    rw [hv6]
    rfl
  rw [hcs] at CV
  skip
  have sS : (cellsA false ((zs.drop 2).take 4 ++ List.replicate (16 - 4) 0)).size = 17 := by rw [cellsA_size, List.length_append, lS, List.length_replicate]
  have sD : (cellsA false ((zs.drop 6).take 4 ++ List.replicate (16 - 4) 0)).size = 17 := by rw [cellsA_size, List.length_append, lD, List.length_replicate]
  have aS := cellsA_all false ((zs.drop 2).take 4 ++ List.replicate (16 - 4) 0)
  have aD := cellsA_all false ((zs.drop 6).take 4 ++ List.replicate (16 - 4) 0)
  unfold adr at CF1 CF2
  obtain ⟨bb, off, rfl, hc⟩ := h.cells (by omega)
  have R1 := Lib.hid (HR.out.sub 2 4 (by omega))
  have R2 := Lib.hid (HR.out.sub 6 4 (by omega))
  have HC0 := Lib.hid (hc 0 (by omega))
  rw [Nat.add_zero] at HC0
  have h2 : (cap = 2) = False := eq_false (by omega)
  have h3 : (cap = 6) = False := eq_false (by omega)
  have hbl := rd_cell (n := 0) (hc 0 (by omega))
  have q1 : ((6 : Nat) : Int) ≤ (cap : Int) := by omega
  have q2 : ((10 : Nat) : Int) ≤ (cap : Int) := by omega
  generalize be ((zs.drop 10).take 2) = sp at *
  generalize be ((zs.drop 12).take 2) = dp at *
  generalize cellsA false ((zs.drop 2).take 4 ++ List.replicate (16 - 4) 0) = SA at *
  generalize cellsA false ((zs.drop 6).take 4 ++ List.replicate (16 - 4) 0) = DA at *
  generalize zs.getD 0 0 = p at *
  have QS := Lib.hid (i24.trans (congrArg some sS.symm))
  have QD := Lib.hid (i24.trans (congrArg some sD.symm))
  have AS := Lib.hid aS
  have AD := Lib.hid aD
  have HS := Lib.hid (st_src p SA sS)
  have HD := Lib.hid (st_dst p SA DA sS sD)
  have HP := Lib.hid (st_sp p SA DA sp sS sD)
  have HQ := Lib.hid (st_dp p SA DA sp dp sS sD)
  have s1 : (kcells p cz cz 0 0).size = 37 := kcells_size _ _ _ _ _ rfl rfl
  have s2 : (kcells p SA cz 0 0).size = 37 := kcells_size _ _ _ _ _ sS rfl
  have s5 : (kcells p SA DA sp dp).size = 37 := kcells_size _ _ _ _ _ sS sD
  have P1 := Lib.hid (show 1 + SA.size ≤ (kcells p cz cz 0 0).size by rw [s1, sS]; omega)
  have P2 := Lib.hid (show 18 + DA.size ≤ (kcells p SA cz 0 0).size by rw [s2, sD]; omega)
  have Y1 : Hid ((kcells p cz cz 0 0).size = Array.size (ZcK : Array Value)) := s1
  have Q1 := Lib.hid (i42.trans (congrArg some s1.symm))
  have A1 := Lib.hid (kcells_all p cz cz 0 0 (cellsA_all _ _) (cellsA_all _ _))
  have Y5 : Hid ((kcells p SA DA sp dp).size = Array.size (ZcK : Array Value)) := s5
  have Q5 := Lib.hid (i42.trans (congrArg some s5.symm))
  have A5 := Lib.hid (kcells_all p SA DA sp dp aS aD)
  have c35 := Lib.hid (k_at p SA DA 0 0 sS sD).1
  have c36 := Lib.hid (k_at p SA DA sp 0 sS sD).2
  have h5 : Hid (.agg #[Value.int .u8 (p : Int), .bool false, .int .u8 0, .int .u8 0, .int .u8 0, .int .u8 0, .int .u8 0, .int .u8 0, .int .u8 0, .int .u8 0, .int .u8 0, .int .u8 0, .int .u8 0, .int .u8 0, .int .u8 0, .int .u8 0, .int .u8 0, .int .u8 0, .bool false, .int .u8 0, .int .u8 0, .int .u8 0, .int .u8 0, .int .u8 0, .int .u8 0, .int .u8 0, .int .u8 0, .int .u8 0, .int .u8 0, .int .u8 0, .int .u8 0, .int .u8 0, .int .u8 0, .int .u8 0, .int .u8 0, .int .u16 0, .int .u16 0] = Value.agg (kcells p cz cz 0 0)) := rfl
  generalize kcells p cz cz 0 0 = k1 at *
  generalize kcells p SA cz 0 0 = k2 at *
  generalize kcells p SA DA 0 0 = k3 at *
  generalize kcells p SA DA sp 0 = k4 at *
  generalize kcells p SA DA sp dp = k5 at *
  generalize (zs.drop 2).take 4 = Z1 at *
  generalize (zs.drop 6).take 4 = Z2 at *
  rw [hl] at *
  clear h hb hF hV hv6 lS lD hcs sS sD aS aD hc s1 s2 s5 h4 ho hl sz0
  unfold maxLen at hlm
  go_enter Tryd.func9, Tryd.ntmps9
  have hal := (Below.refl w.heap.size w).alloc (Nat.le_refl _) (.cells ZcK 27)
  replace K := Lib.hid (K.out.trans (hal.mono K.out.size))
  have HT := Lib.hid (Blk.new w 27 ZcK)
  clear hal
  go_wp2_with fail
  have hzV1 : Hid ((w.alloc (.cells ZcK 27)).heap.size = w.heap.size + 1) := by show _ = _; simp only [World.size_alloc]
  generalize (w.alloc (.cells ZcK 27)) = V1 at *
  refine (CA.out V1 _ (HR.out.below K.out)).mono ?_
  rintro e V2 ⟨rfl, rfl⟩
  have hc0 := (K.out.cell (p := ⟨bb, off, none⟩) hbl).trans HC0.out
  go_wp2_with (((with_reducible refine wpList_blk_store (op := ⟨none, .store 27 (.tmp 8) (.tmp 34), _, _, _, _⟩) ?sg9 27 (.tmp 8) (.tmp 34) ?so9 (V1.heap.size) k1 ?sx9 ?sy9 (Blk.new V1 27 ZcK) Y1.out Q1.out A1.out ?_); (case sg9 => rfl); (case so9 => rfl); (case sx9 => rfl); (case sy9 => exact h5.out)))
  have qHTNK : w.heap.size < V1.heap.size := HT.out.lt
  intro V3 hA hF hB
  have hy := ((Below.refl V1.heap.size V1).alloc (Nat.le_refl _) (.cells ZcK 27)).trans (hB _ (Nat.le_refl _))
  replace K := Lib.hid (K.out.trans (hy.mono K.out.size))
  replace HT := Lib.hid (HT.out.below hy HT.out.lt)
  have NK := Lib.hid hA
  clear hA hF hB hy hc0
  go_wp2_with fail
  refine (CF1.out V3 _ (R1.out.below K.out)).mono ?_
  rintro e V4 ⟨rfl, hy⟩
  replace K := Lib.hid (K.out.trans (hy.mono K.out.size))
  replace HT := Lib.hid (HT.out.below hy HT.out.lt)
  replace NK := Lib.hid (NK.out.below hy NK.out.lt)
  clear hy
  go_wp2_with (((with_reducible refine wpList_part_store (op := ⟨none, .store 24 (.tmp 42) (.tmp 40), _, _, _, _⟩) ?pg10 24 (.tmp 42) (.tmp 40) ?po10 1 SA ?px10 ?py10 NK.out P1.out QS.out AS.out ?_); (case pg10 => rfl); (case po10 => rfl); (case px10 => rfl); (case py10 => rfl)))
  intro V5 hA hF hB
  replace K := Lib.hid (K.out.trans (hB _ (by omega)))
  replace HT := Lib.hid (show Blk _ _ _ _ from (hF _ (by omega)).trans HT.out)
  rw [HS.out] at hA
  replace NK := Lib.hid hA
  clear hA hF hB
  go_wp2_with fail
  refine (CF2.out V5 _ (R2.out.below K.out)).mono ?_
  rintro e V6 ⟨rfl, hy⟩
  replace K := Lib.hid (K.out.trans (hy.mono K.out.size))
  replace HT := Lib.hid (HT.out.below hy HT.out.lt)
  replace NK := Lib.hid (NK.out.below hy NK.out.lt)
  clear hy
  go_wp2_with (((with_reducible refine wpList_part_store (op := ⟨none, .store 24 (.tmp 51) (.tmp 49), _, _, _, _⟩) ?pg11 24 (.tmp 51) (.tmp 49) ?po11 18 DA ?px11 ?py11 NK.out P2.out QD.out AD.out ?_); (case pg11 => rfl); (case po11 => rfl); (case px11 => rfl); (case py11 => rfl)))
  intro V7 hA hF hB
  replace K := Lib.hid (K.out.trans (hB _ (by omega)))
  replace HT := Lib.hid (show Blk _ _ _ _ from (hF _ (by omega)).trans HT.out)
  rw [HD.out] at hA
  replace NK := Lib.hid hA
  clear hA hF hB
  go_wp2_with fail
  refine (CG1.out V7 _ (HR.out.below K.out)).mono ?_
  rintro e V8 ⟨rfl, rfl⟩
  have hk35 := (NK.out.cell 35).trans c35.out
  have hf35 := NK.out.frozen 35
  go_upto_region 9 with fail
  clear hk35 hf35
  have hA := NK.out.set_ 35 (.int .u16 (sp : Int))
  rw [HP.out] at hA
  replace K := Lib.hid (K.out.setCell (p := ⟨V1.heap.size, 35, none⟩) (by show _ ≤ V1.heap.size; omega) (.int .u16 (sp : Int)))
  replace HT := Lib.hid (HT.out.far (p := ⟨V1.heap.size, 35, none⟩) (by show _ ≠ V1.heap.size; omega) (.int .u16 (sp : Int)))
  replace NK := Lib.hid hA
  clear hA
  generalize V7.setCell ⟨V1.heap.size, 35, none⟩ (.int .u16 (sp : Int)) = V9 at *
  go_wp2_with fail
  refine (CG2.out V9 _ (HR.out.below K.out)).mono ?_
  rintro e V10 ⟨rfl, rfl⟩
  have hk36 := (NK.out.cell 36).trans c36.out
  have hf36 := NK.out.frozen 36
  go_upto_region 10 with fail
  clear hk36 hf36
  have hA := NK.out.set_ 36 (.int .u16 (dp : Int))
  rw [HQ.out] at hA
  replace K := Lib.hid (K.out.setCell (p := ⟨V1.heap.size, 36, none⟩) (by show _ ≤ V1.heap.size; omega) (.int .u16 (dp : Int)))
  replace HT := Lib.hid (HT.out.far (p := ⟨V1.heap.size, 36, none⟩) (by show _ ≠ V1.heap.size; omega) (.int .u16 (dp : Int)))
  replace NK := Lib.hid hA
  clear hA
  generalize V9.setCell ⟨V1.heap.size, 36, none⟩ (.int .u16 (dp : Int)) = V11 at *
  have L12 : (loadVar 27 ⟨V1.heap.size, 0, none⟩).run Tryd.prog V11 = .ok (.agg k5) V11 := run_blk_load (P := Tryd.prog) 27 (V1.heap.size) _ NK.out Tryd.underlying27 rfl Q5.out
  replace L12 := Lib.hid L12
  go_wp2_with (((with_reducible refine wpList_load_want (op := ⟨some 67, .load 27 (.tmp 8), _, _, _, _⟩) ?wg12 27 (.tmp 8) ?wo12 ⟨V1.heap.size, 0, none⟩ ?wx12 (.agg k5) L12.out ?_); (case wg12 => rfl); (case wo12 => rfl); (case wx12 => rfl)))
  clear L12
  refine (CV.out V11).mono ?_
  rintro e V12 ⟨rfl, hy⟩
  replace K := Lib.hid (K.out.trans (hy.mono K.out.size))
  replace HT := Lib.hid (HT.out.below hy HT.out.lt)
  replace NK := Lib.hid (NK.out.below hy NK.out.lt)
  clear hy
  go_wp2_with (((with_reducible refine wpList_blk_store (op := ⟨none, .store 27 (.tmp 2) (.tmp 70), _, _, _, _⟩) ?sg13 27 (.tmp 2) (.tmp 70) ?so13 (w.heap.size) k0.cs ?sx13 ?sy13 HT.out Y0.out Q0.out A0.out ?_); (case sg13 => rfl); (case so13 => rfl); (case sx13 => rfl); (case sy13 => rfl)))
  intro V13 hA hF hB
  replace K := Lib.hid (K.out.trans (hB _ (by omega)))
  replace NK := Lib.hid (show Blk _ _ _ _ from (hF _ (by omega)).trans NK.out)
  replace HT := Lib.hid hA
  clear hA hF hB
  go_wp2
  have hrun := run_blk_load (P := Tryd.prog) 27 w.heap.size _ HT.out Tryd.underlying27 rfl Q0.out
  exact bodyPost_ret (results_cell_tmp 2 27 3 w.heap.size _ Tryd.results9 rfl hrun) rfl ⟨rfl, K.out⟩
set_option maxRecDepth 100000 in
set_option maxHeartbeats 4000000 in
theorem kfrom_six_yes (x : Value) (zs : List Nat) (w : World) (h : Rd w x (nus .u8 zs)) (hb : ∀ c ∈ zs, c < 256) (h4 : zs.getD 1 0 = 6) (hl : zs.length = 38) (ho : okF zs = true) :
    Calls Tryd.prog 9 #[x] w fun e w' => e = .returned (.tuple #[.agg (fF zs).cs, .int .i64 0]) ∧ Below w.heap.size w w' := by
  have K := Lib.hid (Below.refl w.heap.size w)
  have HR := Lib.hid h
  obtain ⟨a, cap, rfl, hlc, hlm⟩ := rd_shape h
  have sz0 : k0.cs.size = 37 := k0.cs_size k0_fit
  have Y0 : Hid (k0.cs.size = Array.size (ZcK : Array Value)) := sz0
  have Q0 := Lib.hid (i42.trans (congrArg some sz0.symm))
  have A0 := Lib.hid k0.cs_all
  have CA := Lib.hid (fun W x (h : Rd W x (nus .u8 zs)) => addrSize_any x zs W h)
  rw [h4] at CA
  obtain ⟨hF, hV⟩ := fF_six' zs hl h4 hb
  rw [ho] at hV
  have hv6 : v6F zs = true := by unfold v6F; rw [h4]; rfl
  have lS : ((zs.drop 2).take 16).length = 16 := by rw [List.length_take, List.length_drop, hl]; rfl
  have lD : ((zs.drop 18).take 16).length = 16 := by rw [List.length_take, List.length_drop, hl]; rfl
  have CF1 := Lib.hid (fun W z (h : Rd W z (nus .u8 ((zs.drop 2).take 16))) => from_ok z true ((zs.drop 2).take 16) W h (.inr ⟨lS, rfl⟩))
  have CF2 := Lib.hid (fun W z (h : Rd W z (nus .u8 ((zs.drop 18).take 16))) => from_ok z true ((zs.drop 18).take 16) W h (.inr ⟨lD, rfl⟩))
  rw [lS] at CF1
  rw [lD] at CF2
  have CG1 := Lib.hid (show ∀ W z, Rd W z (nus .u8 zs) → Calls Tryd.prog 25 #[z, .int .i64 34] W fun e w' => e = .returned (.tuple #[.int .u16 (be ((zs.drop 34).take 2) : Nat), .bool true]) ∧ W = w' from fun W z h => get16_yes z 34 zs W h hb (by omega))
  have CG2 := Lib.hid (show ∀ W z, Rd W z (nus .u8 zs) → Calls Tryd.prog 25 #[z, .int .i64 36] W fun e w' => e = .returned (.tuple #[.int .u16 (be ((zs.drop 36).take 2) : Nat), .bool true]) ∧ W = w' from fun W z h => get16_yes z 36 zs W h hb (by omega))
  have CV := Lib.hid (fun W => kvalid_any (fF zs) hF W)
  rw [hV] at CV
  have hcs : (fF zs).cs = kcells (zs.getD 0 0) (cellsA true ((zs.drop 2).take 16 ++ List.replicate (16 - 16) 0)) (cellsA true ((zs.drop 18).take 16 ++ List.replicate (16 - 16) 0)) (be ((zs.drop 34).take 2)) (be ((zs.drop 36).take 2)) := by
    unfold Fl.cs fF
    rw [hv6]
    rfl
  rw [hcs] at CV
  rw [hcs]
  have sS : (cellsA true ((zs.drop 2).take 16 ++ List.replicate (16 - 16) 0)).size = 17 := by rw [cellsA_size, List.length_append, lS, List.length_replicate]
  have sD : (cellsA true ((zs.drop 18).take 16 ++ List.replicate (16 - 16) 0)).size = 17 := by rw [cellsA_size, List.length_append, lD, List.length_replicate]
  have aS := cellsA_all true ((zs.drop 2).take 16 ++ List.replicate (16 - 16) 0)
  have aD := cellsA_all true ((zs.drop 18).take 16 ++ List.replicate (16 - 16) 0)
  unfold adr at CF1 CF2
  obtain ⟨bb, off, rfl, hc⟩ := h.cells (by omega)
  have R1 := Lib.hid (HR.out.sub 2 16 (by omega))
  have R2 := Lib.hid (HR.out.sub 18 16 (by omega))
  have HC0 := Lib.hid (hc 0 (by omega))
  rw [Nat.add_zero] at HC0
  have h2 : (cap = 2) = False := eq_false (by omega)
  have h3 : (cap = 18) = False := eq_false (by omega)
  have hbl := rd_cell (n := 0) (hc 0 (by omega))
  have q1 : ((18 : Nat) : Int) ≤ (cap : Int) := by omega
  have q2 : ((34 : Nat) : Int) ≤ (cap : Int) := by omega
  generalize be ((zs.drop 34).take 2) = sp at *
  generalize be ((zs.drop 36).take 2) = dp at *
  generalize cellsA true ((zs.drop 2).take 16 ++ List.replicate (16 - 16) 0) = SA at *
  generalize cellsA true ((zs.drop 18).take 16 ++ List.replicate (16 - 16) 0) = DA at *
  generalize zs.getD 0 0 = p at *
  have QS := Lib.hid (i24.trans (congrArg some sS.symm))
  have QD := Lib.hid (i24.trans (congrArg some sD.symm))
  have AS := Lib.hid aS
  have AD := Lib.hid aD
  have HS := Lib.hid (st_src p SA sS)
  have HD := Lib.hid (st_dst p SA DA sS sD)
  have HP := Lib.hid (st_sp p SA DA sp sS sD)
  have HQ := Lib.hid (st_dp p SA DA sp dp sS sD)
  have s1 : (kcells p cz cz 0 0).size = 37 := kcells_size _ _ _ _ _ rfl rfl
  have s2 : (kcells p SA cz 0 0).size = 37 := kcells_size _ _ _ _ _ sS rfl
  have s5 : (kcells p SA DA sp dp).size = 37 := kcells_size _ _ _ _ _ sS sD
  have P1 := Lib.hid (show 1 + SA.size ≤ (kcells p cz cz 0 0).size by rw [s1, sS]; omega)
  have P2 := Lib.hid (show 18 + DA.size ≤ (kcells p SA cz 0 0).size by rw [s2, sD]; omega)
  have Y1 : Hid ((kcells p cz cz 0 0).size = Array.size (ZcK : Array Value)) := s1
  have Q1 := Lib.hid (i42.trans (congrArg some s1.symm))
  have A1 := Lib.hid (kcells_all p cz cz 0 0 (cellsA_all _ _) (cellsA_all _ _))
  have Y5 : Hid ((kcells p SA DA sp dp).size = Array.size (ZcK : Array Value)) := s5
  have Q5 := Lib.hid (i42.trans (congrArg some s5.symm))
  have A5 := Lib.hid (kcells_all p SA DA sp dp aS aD)
  have c35 := Lib.hid (k_at p SA DA 0 0 sS sD).1
  have c36 := Lib.hid (k_at p SA DA sp 0 sS sD).2
  have h5 : Hid (.agg #[Value.int .u8 (p : Int), .bool false, .int .u8 0, .int .u8 0, .int .u8 0, .int .u8 0, .int .u8 0, .int .u8 0, .int .u8 0, .int .u8 0, .int .u8 0, .int .u8 0, .int .u8 0, .int .u8 0, .int .u8 0, .int .u8 0, .int .u8 0, .int .u8 0, .bool false, .int .u8 0, .int .u8 0, .int .u8 0, .int .u8 0, .int .u8 0, .int .u8 0, .int .u8 0, .int .u8 0, .int .u8 0, .int .u8 0, .int .u8 0, .int .u8 0, .int .u8 0, .int .u8 0, .int .u8 0, .int .u8 0, .int .u16 0, .int .u16 0] = Value.agg (kcells p cz cz 0 0)) := rfl
  generalize kcells p cz cz 0 0 = k1 at *
  generalize kcells p SA cz 0 0 = k2 at *
  generalize kcells p SA DA 0 0 = k3 at *
  generalize kcells p SA DA sp 0 = k4 at *
  generalize kcells p SA DA sp dp = k5 at *
  generalize (zs.drop 2).take 16 = Z1 at *
  generalize (zs.drop 18).take 16 = Z2 at *
  rw [hl] at *
  clear h hb hF hV hv6 lS lD hcs sS sD aS aD hc s1 s2 s5 h4 ho hl sz0
  unfold maxLen at hlm
  go_enter Tryd.func9, Tryd.ntmps9
  have hal := (Below.refl w.heap.size w).alloc (Nat.le_refl _) (.cells ZcK 27)
  replace K := Lib.hid (K.out.trans (hal.mono K.out.size))
  have HT := Lib.hid (Blk.new w 27 ZcK)
  clear hal
  go_wp2_with fail
  have hzV1 : Hid ((w.alloc (.cells ZcK 27)).heap.size = w.heap.size + 1) := by show _ = _; simp only [World.size_alloc]
  generalize (w.alloc (.cells ZcK 27)) = V1 at *
  refine (CA.out V1 _ (HR.out.below K.out)).mono ?_
  rintro e V2 ⟨rfl, rfl⟩
  have hc0 := (K.out.cell (p := ⟨bb, off, none⟩) hbl).trans HC0.out
  go_wp2_with (((with_reducible refine wpList_blk_store (op := ⟨none, .store 27 (.tmp 8) (.tmp 34), _, _, _, _⟩) ?sg14 27 (.tmp 8) (.tmp 34) ?so14 (V1.heap.size) k1 ?sx14 ?sy14 (Blk.new V1 27 ZcK) Y1.out Q1.out A1.out ?_); (case sg14 => rfl); (case so14 => rfl); (case sx14 => rfl); (case sy14 => exact h5.out)))
  have qHTNK : w.heap.size < V1.heap.size := HT.out.lt
  intro V3 hA hF hB
  have hy := ((Below.refl V1.heap.size V1).alloc (Nat.le_refl _) (.cells ZcK 27)).trans (hB _ (Nat.le_refl _))
  replace K := Lib.hid (K.out.trans (hy.mono K.out.size))
  replace HT := Lib.hid (HT.out.below hy HT.out.lt)
  have NK := Lib.hid hA
  clear hA hF hB hy hc0
  go_wp2_with fail
  refine (CF1.out V3 _ (R1.out.below K.out)).mono ?_
  rintro e V4 ⟨rfl, hy⟩
  replace K := Lib.hid (K.out.trans (hy.mono K.out.size))
  replace HT := Lib.hid (HT.out.below hy HT.out.lt)
  replace NK := Lib.hid (NK.out.below hy NK.out.lt)
  clear hy
  go_wp2_with (((with_reducible refine wpList_part_store (op := ⟨none, .store 24 (.tmp 42) (.tmp 40), _, _, _, _⟩) ?pg15 24 (.tmp 42) (.tmp 40) ?po15 1 SA ?px15 ?py15 NK.out P1.out QS.out AS.out ?_); (case pg15 => rfl); (case po15 => rfl); (case px15 => rfl); (case py15 => rfl)))
  intro V5 hA hF hB
  replace K := Lib.hid (K.out.trans (hB _ (by omega)))
  replace HT := Lib.hid (show Blk _ _ _ _ from (hF _ (by omega)).trans HT.out)
  rw [HS.out] at hA
  replace NK := Lib.hid hA
  clear hA hF hB
  go_wp2_with fail
  refine (CF2.out V5 _ (R2.out.below K.out)).mono ?_
  rintro e V6 ⟨rfl, hy⟩
  replace K := Lib.hid (K.out.trans (hy.mono K.out.size))
  replace HT := Lib.hid (HT.out.below hy HT.out.lt)
  replace NK := Lib.hid (NK.out.below hy NK.out.lt)
  clear hy
  go_wp2_with (((with_reducible refine wpList_part_store (op := ⟨none, .store 24 (.tmp 51) (.tmp 49), _, _, _, _⟩) ?pg16 24 (.tmp 51) (.tmp 49) ?po16 18 DA ?px16 ?py16 NK.out P2.out QD.out AD.out ?_); (case pg16 => rfl); (case po16 => rfl); (case px16 => rfl); (case py16 => rfl)))
  intro V7 hA hF hB
  replace K := Lib.hid (K.out.trans (hB _ (by omega)))
  replace HT := Lib.hid (show Blk _ _ _ _ from (hF _ (by omega)).trans HT.out)
  rw [HD.out] at hA
  replace NK := Lib.hid hA
  clear hA hF hB
  go_wp2_with fail
  refine (CG1.out V7 _ (HR.out.below K.out)).mono ?_
  rintro e V8 ⟨rfl, rfl⟩
  have hk35 := (NK.out.cell 35).trans c35.out
  have hf35 := NK.out.frozen 35
  go_upto_region 9 with fail
  clear hk35 hf35
  have hA := NK.out.set_ 35 (.int .u16 (sp : Int))
  rw [HP.out] at hA
  replace K := Lib.hid (K.out.setCell (p := ⟨V1.heap.size, 35, none⟩) (by show _ ≤ V1.heap.size; omega) (.int .u16 (sp : Int)))
  replace HT := Lib.hid (HT.out.far (p := ⟨V1.heap.size, 35, none⟩) (by show _ ≠ V1.heap.size; omega) (.int .u16 (sp : Int)))
  replace NK := Lib.hid hA
  clear hA
  generalize V7.setCell ⟨V1.heap.size, 35, none⟩ (.int .u16 (sp : Int)) = V9 at *
  go_wp2_with fail
  refine (CG2.out V9 _ (HR.out.below K.out)).mono ?_
  rintro e V10 ⟨rfl, rfl⟩
  have hk36 := (NK.out.cell 36).trans c36.out
  have hf36 := NK.out.frozen 36
  go_upto_region 10 with fail
  clear hk36 hf36
  have hA := NK.out.set_ 36 (.int .u16 (dp : Int))
  rw [HQ.out] at hA
  replace K := Lib.hid (K.out.setCell (p := ⟨V1.heap.size, 36, none⟩) (by show _ ≤ V1.heap.size; omega) (.int .u16 (dp : Int)))
  replace HT := Lib.hid (HT.out.far (p := ⟨V1.heap.size, 36, none⟩) (by show _ ≠ V1.heap.size; omega) (.int .u16 (dp : Int)))
  replace NK := Lib.hid hA
  clear hA
  generalize V9.setCell ⟨V1.heap.size, 36, none⟩ (.int .u16 (dp : Int)) = V11 at *
  have L17 : (loadVar 27 ⟨V1.heap.size, 0, none⟩).run Tryd.prog V11 = .ok (.agg k5) V11 := run_blk_load (P := Tryd.prog) 27 (V1.heap.size) _ NK.out Tryd.underlying27 rfl Q5.out
  replace L17 := Lib.hid L17
  go_wp2_with (((with_reducible refine wpList_load_want (op := ⟨some 67, .load 27 (.tmp 8), _, _, _, _⟩) ?wg17 27 (.tmp 8) ?wo17 ⟨V1.heap.size, 0, none⟩ ?wx17 (.agg k5) L17.out ?_); (case wg17 => rfl); (case wo17 => rfl); (case wx17 => rfl)))
  clear L17
  refine (CV.out V11).mono ?_
  rintro e V12 ⟨rfl, hy⟩
  replace K := Lib.hid (K.out.trans (hy.mono K.out.size))
  replace HT := Lib.hid (HT.out.below hy HT.out.lt)
  replace NK := Lib.hid (NK.out.below hy NK.out.lt)
  clear hy
  have L18 : (loadVar 27 ⟨V1.heap.size, 0, none⟩).run Tryd.prog V12 = .ok (.agg k5) V12 := run_blk_load (P := Tryd.prog) 27 (V1.heap.size) _ NK.out Tryd.underlying27 rfl Q5.out
  replace L18 := Lib.hid L18
  go_wp2_with (first | ((with_reducible refine wpList_load_want (op := ⟨some 71, .load 27 (.tmp 8), _, _, _, _⟩) ?wg18 27 (.tmp 8) ?wo18 ⟨V1.heap.size, 0, none⟩ ?wx18 (.agg k5) L18.out ?_); (case wg18 => rfl); (case wo18 => rfl); (case wx18 => rfl)) | ((with_reducible refine wpList_blk_store (op := ⟨none, .store 27 (.tmp 2) (.tmp 71), _, _, _, _⟩) ?sg19 27 (.tmp 2) (.tmp 71) ?so19 (w.heap.size) k5 ?sx19 ?sy19 HT.out Y5.out Q5.out A5.out ?_); (case sg19 => rfl); (case so19 => rfl); (case sx19 => rfl); (case sy19 => rfl)))
  clear L18
  intro V13 hA hF hB
  replace K := Lib.hid (K.out.trans (hB _ (by omega)))
  replace NK := Lib.hid (show Blk _ _ _ _ from (hF _ (by omega)).trans NK.out)
  replace HT := Lib.hid hA
  clear hA hF hB
  go_wp2
  have hrun := run_blk_load (P := Tryd.prog) 27 w.heap.size _ HT.out Tryd.underlying27 rfl Q5.out
  exact bodyPost_ret (results_cell_tmp 2 27 3 w.heap.size _ Tryd.results9 rfl hrun) rfl ⟨rfl, K.out⟩
set_option maxRecDepth 100000 in
set_option maxHeartbeats 4000000 in
theorem kfrom_six_no (x : Value) (zs : List Nat) (w : World) (h : Rd w x (nus .u8 zs)) (hb : ∀ c ∈ zs, c < 256) (h4 : zs.getD 1 0 = 6) (hl : zs.length = 38) (ho : okF zs = false) :
    Calls Tryd.prog 9 #[x] w fun e w' => e = .returned (.tuple #[.agg k0.cs, .int .i64 2]) ∧ Below w.heap.size w w' := by
  have K := Lib.hid (Below.refl w.heap.size w)
  have HR := Lib.hid h
  obtain ⟨a, cap, rfl, hlc, hlm⟩ := rd_shape h
  have sz0 : k0.cs.size = 37 := k0.cs_size k0_fit
  have Y0 : Hid (k0.cs.size = Array.size (ZcK : Array Value)) := sz0
  have Q0 := Lib.hid (i42.trans (congrArg some sz0.symm))
  have A0 := Lib.hid k0.cs_all
  have CA := Lib.hid (fun W x (h : Rd W x (nus .u8 zs)) => addrSize_any x zs W h)
  rw [h4] at CA
  obtain ⟨hF, hV⟩ := fF_six' zs hl h4 hb
  rw [ho] at hV
  have hv6 : v6F zs = true := by unfold v6F; rw [h4]; rfl
  have lS : ((zs.drop 2).take 16).length = 16 := by rw [List.length_take, List.length_drop, hl]; rfl
  have lD : ((zs.drop 18).take 16).length = 16 := by rw [List.length_take, List.length_drop, hl]; rfl
  have CF1 := Lib.hid (fun W z (h : Rd W z (nus .u8 ((zs.drop 2).take 16))) => from_ok z true ((zs.drop 2).take 16) W h (.inr ⟨lS, rfl⟩))
  have CF2 := Lib.hid (fun W z (h : Rd W z (nus .u8 ((zs.drop 18).take 16))) => from_ok z true ((zs.drop 18).take 16) W h (.inr ⟨lD, rfl⟩))
  rw [lS] at CF1
  rw [lD] at CF2
  have CG1 := Lib.hid (show ∀ W z, Rd W z (nus .u8 zs) → Calls Tryd.prog 25 #[z, .int .i64 34] W fun e w' => e = .returned (.tuple #[.int .u16 (be ((zs.drop 34).take 2) : Nat), .bool true]) ∧ W = w' from fun W z h => get16_yes z 34 zs W h hb (by omega))
  have CG2 := Lib.hid (show ∀ W z, Rd W z (nus .u8 zs) → Calls Tryd.prog 25 #[z, .int .i64 36] W fun e w' => e = .returned (.tuple #[.int .u16 (be ((zs.drop 36).take 2) : Nat), .bool true]) ∧ W = w' from fun W z h => get16_yes z 36 zs W h hb (by omega))
  have CV := Lib.hid (fun W => kvalid_any (fF zs) hF W)
  rw [hV] at CV
  have hcs : (fF zs).cs = kcells (zs.getD 0 0) (cellsA true ((zs.drop 2).take 16 ++ List.replicate (16 - 16) 0)) (cellsA true ((zs.drop 18).take 16 ++ List.replicate (16 - 16) 0)) (be ((zs.drop 34).take 2)) (be ((zs.drop 36).take 2)) := by
    unfold Fl.cs fF
    rw [hv6]
    rfl
  rw [hcs] at CV
  skip
  have sS : (cellsA true ((zs.drop 2).take 16 ++ List.replicate (16 - 16) 0)).size = 17 := by rw [cellsA_size, List.length_append, lS, List.length_replicate]
  have sD : (cellsA true ((zs.drop 18).take 16 ++ List.replicate (16 - 16) 0)).size = 17 := by rw [cellsA_size, List.length_append, lD, List.length_replicate]
  have aS := cellsA_all true ((zs.drop 2).take 16 ++ List.replicate (16 - 16) 0)
  have aD := cellsA_all true ((zs.drop 18).take 16 ++ List.replicate (16 - 16) 0)
  unfold adr at CF1 CF2
  obtain ⟨bb, off, rfl, hc⟩ := h.cells (by omega)
  have R1 := Lib.hid (HR.out.sub 2 16 (by omega))
  have R2 := Lib.hid (HR.out.sub 18 16 (by omega))
  have HC0 := Lib.hid (hc 0 (by omega))
  rw [Nat.add_zero] at HC0
  have h2 : (cap = 2) = False := eq_false (by omega)
  have h3 : (cap = 18) = False := eq_false (by omega)
  have hbl := rd_cell (n := 0) (hc 0 (by omega))
  have q1 : ((18 : Nat) : Int) ≤ (cap : Int) := by omega
  have q2 : ((34 : Nat) : Int) ≤ (cap : Int) := by omega
  generalize be ((zs.drop 34).take 2) = sp at *
  generalize be ((zs.drop 36).take 2) = dp at *
  generalize cellsA true ((zs.drop 2).take 16 ++ List.replicate (16 - 16) 0) = SA at *
  generalize cellsA true ((zs.drop 18).take 16 ++ List.replicate (16 - 16) 0) = DA at *
  generalize zs.getD 0 0 = p at *
  have QS := Lib.hid (i24.trans (congrArg some sS.symm))
  have QD := Lib.hid (i24.trans (congrArg some sD.symm))
  have AS := Lib.hid aS
  have AD := Lib.hid aD
  have HS := Lib.hid (st_src p SA sS)
  have HD := Lib.hid (st_dst p SA DA sS sD)
  have HP := Lib.hid (st_sp p SA DA sp sS sD)
  have HQ := Lib.hid (st_dp p SA DA sp dp sS sD)
  have s1 : (kcells p cz cz 0 0).size = 37 := kcells_size _ _ _ _ _ rfl rfl
  have s2 : (kcells p SA cz 0 0).size = 37 := kcells_size _ _ _ _ _ sS rfl
  have s5 : (kcells p SA DA sp dp).size = 37 := kcells_size _ _ _ _ _ sS sD
  have P1 := Lib.hid (show 1 + SA.size ≤ (kcells p cz cz 0 0).size by rw [s1, sS]; omega)
  have P2 := Lib.hid (show 18 + DA.size ≤ (kcells p SA cz 0 0).size by rw [s2, sD]; omega)
  have Y1 : Hid ((kcells p cz cz 0 0).size = Array.size (ZcK : Array Value)) := s1
  have Q1 := Lib.hid (i42.trans (congrArg some s1.symm))
  have A1 := Lib.hid (kcells_all p cz cz 0 0 (cellsA_all _ _) (cellsA_all _ _))
  have Y5 : Hid ((kcells p SA DA sp dp).size = Array.size (ZcK : Array Value)) := s5
  have Q5 := Lib.hid (i42.trans (congrArg some s5.symm))
  have A5 := Lib.hid (kcells_all p SA DA sp dp aS aD)
  have c35 := Lib.hid (k_at p SA DA 0 0 sS sD).1
  have c36 := Lib.hid (k_at p SA DA sp 0 sS sD).2
  have h5 : Hid (.agg #[Value.int .u8 (p : Int), .bool false, .int .u8 0, .int .u8 0, .int .u8 0, .int .u8 0, .int .u8 0, .int .u8 0, .int .u8 0, .int .u8 0, .int .u8 0, .int .u8 0, .int .u8 0, .int .u8 0, .int .u8 0, .int .u8 0, .int .u8 0, .int .u8 0, .bool false, .int .u8 0, .int .u8 0, .int .u8 0, .int .u8 0, .int .u8 0, .int .u8 0, .int .u8 0, .int .u8 0, .int .u8 0, .int .u8 0, .int .u8 0, .int .u8 0, .int .u8 0, .int .u8 0, .int .u8 0, .int .u8 0, .int .u16 0, .int .u16 0] = Value.agg (kcells p cz cz 0 0)) := rfl
  generalize kcells p cz cz 0 0 = k1 at *
  generalize kcells p SA cz 0 0 = k2 at *
  generalize kcells p SA DA 0 0 = k3 at *
  generalize kcells p SA DA sp 0 = k4 at *
  generalize kcells p SA DA sp dp = k5 at *
  generalize (zs.drop 2).take 16 = Z1 at *
  generalize (zs.drop 18).take 16 = Z2 at *
  rw [hl] at *
  clear h hb hF hV hv6 lS lD hcs sS sD aS aD hc s1 s2 s5 h4 ho hl sz0
  unfold maxLen at hlm
  go_enter Tryd.func9, Tryd.ntmps9
  have hal := (Below.refl w.heap.size w).alloc (Nat.le_refl _) (.cells ZcK 27)
  replace K := Lib.hid (K.out.trans (hal.mono K.out.size))
  have HT := Lib.hid (Blk.new w 27 ZcK)
  clear hal
  go_wp2_with fail
  have hzV1 : Hid ((w.alloc (.cells ZcK 27)).heap.size = w.heap.size + 1) := by show _ = _; simp only [World.size_alloc]
  generalize (w.alloc (.cells ZcK 27)) = V1 at *
  refine (CA.out V1 _ (HR.out.below K.out)).mono ?_
  rintro e V2 ⟨rfl, rfl⟩
  have hc0 := (K.out.cell (p := ⟨bb, off, none⟩) hbl).trans HC0.out
  go_wp2_with (((with_reducible refine wpList_blk_store (op := ⟨none, .store 27 (.tmp 8) (.tmp 34), _, _, _, _⟩) ?sg20 27 (.tmp 8) (.tmp 34) ?so20 (V1.heap.size) k1 ?sx20 ?sy20 (Blk.new V1 27 ZcK) Y1.out Q1.out A1.out ?_); (case sg20 => rfl); (case so20 => rfl); (case sx20 => rfl); (case sy20 => exact h5.out)))
  have qHTNK : w.heap.size < V1.heap.size := HT.out.lt
  intro V3 hA hF hB
  have hy := ((Below.refl V1.heap.size V1).alloc (Nat.le_refl _) (.cells ZcK 27)).trans (hB _ (Nat.le_refl _))
  replace K := Lib.hid (K.out.trans (hy.mono K.out.size))
  replace HT := Lib.hid (HT.out.below hy HT.out.lt)
  have NK := Lib.hid hA
  clear hA hF hB hy hc0
  go_wp2_with fail
  refine (CF1.out V3 _ (R1.out.below K.out)).mono ?_
  rintro e V4 ⟨rfl, hy⟩
  replace K := Lib.hid (K.out.trans (hy.mono K.out.size))
  replace HT := Lib.hid (HT.out.below hy HT.out.lt)
  replace NK := Lib.hid (NK.out.below hy NK.out.lt)
  clear hy
  go_wp2_with (((with_reducible refine wpList_part_store (op := ⟨none, .store 24 (.tmp 42) (.tmp 40), _, _, _, _⟩) ?pg21 24 (.tmp 42) (.tmp 40) ?po21 1 SA ?px21 ?py21 NK.out P1.out QS.out AS.out ?_); (case pg21 => rfl); (case po21 => rfl); (case px21 => rfl); (case py21 => rfl)))
  intro V5 hA hF hB
  replace K := Lib.hid (K.out.trans (hB _ (by omega)))
  replace HT := Lib.hid (show Blk _ _ _ _ from (hF _ (by omega)).trans HT.out)
  rw [HS.out] at hA
  replace NK := Lib.hid hA
  clear hA hF hB
  go_wp2_with fail
  refine (CF2.out V5 _ (R2.out.below K.out)).mono ?_
  rintro e V6 ⟨rfl, hy⟩
  replace K := Lib.hid (K.out.trans (hy.mono K.out.size))
  replace HT := Lib.hid (HT.out.below hy HT.out.lt)
  replace NK := Lib.hid (NK.out.below hy NK.out.lt)
  clear hy
  go_wp2_with (((with_reducible refine wpList_part_store (op := ⟨none, .store 24 (.tmp 51) (.tmp 49), _, _, _, _⟩) ?pg22 24 (.tmp 51) (.tmp 49) ?po22 18 DA ?px22 ?py22 NK.out P2.out QD.out AD.out ?_); (case pg22 => rfl); (case po22 => rfl); (case px22 => rfl); (case py22 => rfl)))
  intro V7 hA hF hB
  replace K := Lib.hid (K.out.trans (hB _ (by omega)))
  replace HT := Lib.hid (show Blk _ _ _ _ from (hF _ (by omega)).trans HT.out)
  rw [HD.out] at hA
  replace NK := Lib.hid hA
  clear hA hF hB
  go_wp2_with fail
  refine (CG1.out V7 _ (HR.out.below K.out)).mono ?_
  rintro e V8 ⟨rfl, rfl⟩
  have hk35 := (NK.out.cell 35).trans c35.out
  have hf35 := NK.out.frozen 35
  go_upto_region 9 with fail
  clear hk35 hf35
  have hA := NK.out.set_ 35 (.int .u16 (sp : Int))
  rw [HP.out] at hA
  replace K := Lib.hid (K.out.setCell (p := ⟨V1.heap.size, 35, none⟩) (by show _ ≤ V1.heap.size; omega) (.int .u16 (sp : Int)))
  replace HT := Lib.hid (HT.out.far (p := ⟨V1.heap.size, 35, none⟩) (by show _ ≠ V1.heap.size; omega) (.int .u16 (sp : Int)))
  replace NK := Lib.hid hA
  clear hA
  generalize V7.setCell ⟨V1.heap.size, 35, none⟩ (.int .u16 (sp : Int)) = V9 at *
  go_wp2_with fail
  refine (CG2.out V9 _ (HR.out.below K.out)).mono ?_
  rintro e V10 ⟨rfl, rfl⟩
  have hk36 := (NK.out.cell 36).trans c36.out
  have hf36 := NK.out.frozen 36
  go_upto_region 10 with fail
  clear hk36 hf36
  have hA := NK.out.set_ 36 (.int .u16 (dp : Int))
  rw [HQ.out] at hA
  replace K := Lib.hid (K.out.setCell (p := ⟨V1.heap.size, 36, none⟩) (by show _ ≤ V1.heap.size; omega) (.int .u16 (dp : Int)))
  replace HT := Lib.hid (HT.out.far (p := ⟨V1.heap.size, 36, none⟩) (by show _ ≠ V1.heap.size; omega) (.int .u16 (dp : Int)))
  replace NK := Lib.hid hA
  clear hA
  generalize V9.setCell ⟨V1.heap.size, 36, none⟩ (.int .u16 (dp : Int)) = V11 at *
  have L23 : (loadVar 27 ⟨V1.heap.size, 0, none⟩).run Tryd.prog V11 = .ok (.agg k5) V11 := run_blk_load (P := Tryd.prog) 27 (V1.heap.size) _ NK.out Tryd.underlying27 rfl Q5.out
  replace L23 := Lib.hid L23
  go_wp2_with (((with_reducible refine wpList_load_want (op := ⟨some 67, .load 27 (.tmp 8), _, _, _, _⟩) ?wg23 27 (.tmp 8) ?wo23 ⟨V1.heap.size, 0, none⟩ ?wx23 (.agg k5) L23.out ?_); (case wg23 => rfl); (case wo23 => rfl); (case wx23 => rfl)))
  clear L23
  refine (CV.out V11).mono ?_
  rintro e V12 ⟨rfl, hy⟩
  replace K := Lib.hid (K.out.trans (hy.mono K.out.size))
  replace HT := Lib.hid (HT.out.below hy HT.out.lt)
  replace NK := Lib.hid (NK.out.below hy NK.out.lt)
  clear hy
  go_wp2_with (((with_reducible refine wpList_blk_store (op := ⟨none, .store 27 (.tmp 2) (.tmp 70), _, _, _, _⟩) ?sg24 27 (.tmp 2) (.tmp 70) ?so24 (w.heap.size) k0.cs ?sx24 ?sy24 HT.out Y0.out Q0.out A0.out ?_); (case sg24 => rfl); (case so24 => rfl); (case sx24 => rfl); (case sy24 => rfl)))
  intro V13 hA hF hB
  replace K := Lib.hid (K.out.trans (hB _ (by omega)))
  replace NK := Lib.hid (show Blk _ _ _ _ from (hF _ (by omega)).trans NK.out)
  replace HT := Lib.hid hA
  clear hA hF hB
  go_wp2
  have hrun := run_blk_load (P := Tryd.prog) 27 w.heap.size _ HT.out Tryd.underlying27 rfl Q0.out
  exact bodyPost_ret (results_cell_tmp 2 27 3 w.heap.size _ Tryd.results9 rfl hrun) rfl ⟨rfl, K.out⟩
theorem kfrom_any (x : Value) (zs : List Nat) (w : World) (h : Rd w x (nus .u8 zs)) (hb : ∀ c ∈ zs, c < 256) :
    Calls Tryd.prog 9 #[x] w fun e w' => e = .returned (.tuple #[.agg (fcs zs), .int .i64 (if okF zs then 0 else 2)]) ∧ Below w.heap.size w w' := by
  by_cases h4 : zs.getD 1 0 = 4
  · have hv : v6F zs = false := by unfold v6F; rw [h4]; rfl
    by_cases hl : zs.length = 14
    · cases ho : okF zs with
      | true => unfold fcs; rw [ho]; exact kfrom_four_yes x zs w h hb h4 hl ho
      | false => unfold fcs; rw [ho]; exact kfrom_four_no x zs w h hb h4 hl ho
    · have ho : okF zs = false := by
        cases q : okF zs with
        | false => rfl
        | true => have q2 := (okF_yes q).2.1; rw [hv] at q2; exact absurd q2 hl
      unfold fcs; rw [ho]
      exact kfrom_len x zs w h 4 (if_pos h4) (by rw [h4]; rfl) (by omega) hl
  · by_cases h6 : zs.getD 1 0 = 6
    · have hv : v6F zs = true := by unfold v6F; rw [h6]; rfl
      by_cases hl : zs.length = 38
      · cases ho : okF zs with
        | true => unfold fcs; rw [ho]; exact kfrom_six_yes x zs w h hb h6 hl ho
        | false => unfold fcs; rw [ho]; exact kfrom_six_no x zs w h hb h6 hl ho
      · have ho : okF zs = false := by
          cases q : okF zs with
          | false => rfl
          | true => have q2 := (okF_yes q).2.1; rw [hv] at q2; exact absurd q2 hl
        unfold fcs; rw [ho]
        exact kfrom_len x zs w h 16 (by rw [if_neg h4, if_pos h6]) (by rw [h6]; rfl) (by omega) hl
    · have hk : (decide (zs.getD 1 0 = 4) || decide (zs.getD 1 0 = 6)) = false := by rw [decide_eq_false h4, decide_eq_false h6]; rfl
      have ho : okF zs = false := by unfold okF; rw [hk]; rfl
      unfold fcs; rw [ho]
      exact kfrom_kind x zs w h hk
end Go.Proofs.YthkaadcgiplolaaDoor
