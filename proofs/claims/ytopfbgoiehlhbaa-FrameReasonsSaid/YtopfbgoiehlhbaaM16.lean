/- Texts that the walks of this seat lean on, put together: each has its own remark below. -/
import Derived.Lib.QuietBelow
import Derived.Test.YtopfbgoiehlhbaaM02
import Derived.Test.YtopfbgoiehlhbaaM03
import Derived.Test.YtopfbgoiehlhbaaM05
import Derived.Test.YtopfbgoiehlhbaaM15

/- ipfour.word, ipfour.sizeOf, ipfour.fault. -/
namespace Go.Proofs.Ytopfbgoiehlhbaa
open Go.RowKit
set_option maxRecDepth 100000 in
set_option maxHeartbeats 400000 in
theorem word4_any (v : Value) (k : Nat) (zs : List Nat) (w : World) (hr : Rd w v (nus .u8 zs)) (hb : ∀ c ∈ zs, c < 256) (hk : k + 2 ≤ zs.length) :
    Calls Try.prog 73 #[v, .int .i64 (k : Int)] w fun e w' => e = .returned (.int .u16 (u2 zs k : Nat)) ∧ w = w' := by
  have H := Lib.hid (get16_yes v k zs w hr hb hk)
  have HE := Lib.hid (be_u2 zs k hk)
  clear hr hb hk
  go_enter Try.func73, Try.ntmps73
  go_wp2_with fail
  refine H.out.mono ?_; rintro e w' ⟨rfl, rfl⟩
  rw [HE.out]
  go_wp2
  go_ret
  exact ⟨rfl, rfl⟩
set_option maxRecDepth 100000 in
set_option maxHeartbeats 400000 in
theorem sizeOf_any (v : Value) (zs : List Nat) (w : World) (hr : Rd w v (nus .u8 zs)) (hb : ∀ c ∈ zs, c < 256) (h0 : 0 < zs.length) :
    Calls Try.prog 72 #[v] w fun e w' => e = .returned (.int .i64 (hs zs : Nat)) ∧ w = w' := by
  obtain ⟨a, cap, rfl, h1, h2⟩ := rd_shape hr
  obtain ⟨b, off, rfl, hc⟩ := hr.cells h0
  have c0 := hc 0 h0
  have hx := getD_lt zs hb 0
  have hl := Lib.hid (low4 _ hx)
  have hH := Lib.hid (show (4 * (zs.getD 0 0 % 16) : Nat) = hs zs from rfl)
  unfold maxLen at h2
  obtain ⟨len, hle⟩ : ∃ n, n = zs.length := ⟨_, rfl⟩
  rw [← hle] at h0 h1 ⊢
  generalize zs.getD 0 0 = x at *
  rw [Nat.add_zero] at c0
  clear hc hr hb hle
  have hl' := hl.out
  go_enter Try.func72, Try.ntmps72
  go_wp2
  go_ret
  exact ⟨ret_int (by rw [← hH.out]; go_num), rfl⟩
set_option maxRecDepth 100000 in
set_option maxHeartbeats 1000000 in
theorem fault4_any (v : Value) (zs : List Nat) (w : World) (hr : Rd w v (nus .u8 zs)) (hb : ∀ c ∈ zs, c < 256) :
    Calls Try.prog 71 #[v] w fun e w' => e = .returned (.int .i64 (ff zs : Nat)) ∧ Below w.heap.size w w' := by
  obtain ⟨a, cap, rfl, h1, h2⟩ := rd_shape hr
  by_cases h20 : zs.length < 20
  · have hf : ff zs = 1 := by unfold ff; rw [if_pos h20]
    rw [hf]
    unfold maxLen at h2
    clear hr hb hf
    go_enter Try.func71, Try.ntmps71
    go_wp2
    go_ret
    exact ⟨rfl, Below.refl _ _⟩
  obtain ⟨b, off, rfl, hc⟩ := hr.cells (by omega)
  have c0 := hc 0 (by omega)
  have c9 := hc 9 (by omega)
  obtain ⟨va, hva⟩ : ∃ va, va = Value.slice (some ⟨b, off, none⟩) zs.length cap := ⟨_, rfl⟩
  have SZ := Lib.hid (sizeOf_any va zs w (hva ▸ hr) hb (by omega))
  have W2 := Lib.hid (fun w' (h : Rd w' va (nus .u8 zs)) => word4_any va 2 zs w' h hb (by omega))
  have W6 := Lib.hid (fun w' (h : Rd w' va (nus .u8 zs)) => word4_any va 6 zs w' h hb (by omega))
  have HR := Lib.hid (show Rd w va (nus .u8 zs) from hva ▸ hr)
  rw [hva] at SZ W2 W6 HR
  have hx := getD_lt zs hb 0
  have hp := getD_lt zs hb 9
  have hl := u2_lt zs 2 hb
  have hg := u2_lt zs 6 hb
  have hs4 := hs_lt zs
  have HL := Lib.hid (low14 _ hg)
  have HC := Lib.hid (fun w' h => check_any (.slice (some ⟨b, off, none⟩) (hs zs) cap) (zs.take (hs zs)) w' h (by simp; omega) (fun c hc => hb c (List.mem_of_mem_take hc)))
  have hck := ck_le (zs.take (hs zs))
  have HFr := Lib.hid (fun w' (h : Rd w' (.slice (some ⟨b, off, none⟩) zs.length cap) (nus .u8 zs)) => h.front (hs zs))
  unfold maxLen at h2
  rw [Nat.add_zero] at c0
  clear hc hr hb hva va
  obtain ⟨F, hFe⟩ : ∃ F, F = ff zs := ⟨_, rfl⟩
  rw [show (Calls Try.prog 71 #[.slice (some ⟨b, off, none⟩) zs.length cap] w fun e w' => e = .returned (.int .i64 (ff zs : Nat)) ∧ Below w.heap.size w w') = _ from by rw [← hFe]]
  unfold ff at hFe
  have HF := Lib.hid hFe
  clear hFe
  generalize zs.getD 0 0 = x at *
  generalize zs.getD 9 0 = p at *
  generalize hs zs = s at *
  generalize u2 zs 2 = l at *
  generalize u2 zs 6 = g at *
  generalize ck (zs.take s) = q at *
  generalize zs.take s = T at *
  generalize zs.length = n at *
  go_enter Try.func71, Try.ntmps71
  go_wp2_with fail
  refine SZ.out.mono ?_; rintro e w' ⟨rfl, rfl⟩
  go_wp2_with fail
  refine (W2.out _ HR.out).mono ?_; rintro e w' ⟨rfl, rfl⟩
  clear SZ W2
  by_cases h4 : x / 16 = 4
  case neg =>
    have hf : F = 3 := by rw [HF.out, if_neg h20, if_pos (.inl h4)]
    have g4 : ((x : Int) / 16 != 4) = true := by rw [bne_iff_ne]; omega
    subst hf
    clear h4
    go_wp2
    go_ret
    exact ⟨rfl, Below.refl _ _⟩
  have g4 : ((x : Int) / 16 != 4) = false := by rw [bne_eq_false_iff_eq]; omega
  by_cases hs20 : s < 20
  · have hf : F = 3 := by rw [HF.out, if_neg h20, if_pos (.inr (.inl hs20))]
    subst hf
    clear h4
    go_wp2
    go_ret
    exact ⟨rfl, Below.refl _ _⟩
  by_cases hls : l < s
  · have hf : F = 3 := by rw [HF.out, if_neg h20, if_pos (.inr (.inr hls))]
    subst hf
    clear h4
    go_wp2
    go_ret
    exact ⟨rfl, Below.refl _ _⟩
  have HF2 := Lib.hid (HF.out.trans ((if_neg h20).trans (if_neg (by omega))))
  clear HF
  by_cases hnl : n < l
  · have hf : F = 1 := by rw [HF2.out, if_pos hnl]
    subst hf
    clear h4
    go_wp2
    go_ret
    exact ⟨rfl, Below.refl _ _⟩
  have HF := Lib.hid (HF2.out.trans (if_neg hnl))
  have HS := Lib.hid (HFr.out w HR.out (by omega))
  clear HF2 h4 HFr
  go_wp2_with fail
  refine (HC.out _ HS.out).mono ?_; rintro e w1 ⟨rfl, b1⟩
  have B1 := Lib.hid b1
  have R1 := Lib.hid (HR.out.below b1)
  clear b1 HC HS HR
  by_cases hq : q = 0
  case neg =>
    have hf : F = 4 := by rw [HF.out, if_pos hq]
    have gq : ((q : Int) != 0) = true := by rw [bne_iff_ne]; omega
    subst hf
    clear hq
    go_wp2
    go_ret
    exact ⟨rfl, B1.out⟩
  have HF2 := Lib.hid (HF.out.trans (if_neg (by omega)))
  subst hq
  clear HF
  go_wp2_with fail
  refine (W6.out _ R1.out).mono ?_; rintro e w' ⟨rfl, rfl⟩
  have hl14 := HL.out
  by_cases hg0 : g % 16384 = 0
  case neg =>
    have hf : F = 5 := by rw [HF2.out, if_pos hg0]
    have gq : (((g % 16384 : Nat) : Int) != 0) = true := by rw [bne_iff_ne]; omega
    subst hf
    clear hg0
    go_wp2
    go_ret
    exact ⟨rfl, B1.out⟩
  have HF := Lib.hid (HF2.out.trans (if_neg (by omega)))
  have gq : (((g % 16384 : Nat) : Int) != 0) = false := by rw [bne_eq_false_iff_eq]; omega
  have hb0 : b < w.heap.size := by
    rcases Nat.lt_or_ge b w.heap.size with h | h
    · exact h
    · simp [World.cell?, Array.getElem?_eq_none h] at c0
  have c9' := (B1.out.cell (p := ⟨b, off + 9, none⟩) hb0).trans c9
  clear HF2 hg0 c0 c9
  by_cases hp6 : p = 6
  · have hf : F = 0 := by rw [HF.out, if_neg (by omega)]
    subst hf hp6
    go_wp2
    go_ret
    exact ⟨rfl, B1.out⟩
  by_cases hp17 : p = 17
  · have hf : F = 0 := by rw [HF.out, if_neg (by omega)]
    subst hf hp17
    go_wp2
    go_ret
    exact ⟨rfl, B1.out⟩
  have hf : F = 6 := by rw [HF.out, if_pos ⟨hp6, hp17⟩]
  have g6 : ((p : Int) != 6) = true := by rw [bne_iff_ne]; omega
  have g17 : ((p : Int) != 17) = true := by rw [bne_iff_ne]; omega
  subst hf
  clear hp6 hp17
  go_wp2
  go_ret
  exact ⟨rfl, B1.out⟩
end Go.Proofs.Ytopfbgoiehlhbaa

/- ipfour.Read. -/
namespace Go.Proofs.Ytopfbgoiehlhbaa
open Go.RowKit
set_option maxRecDepth 100000 in
theorem built_head (s l p : Nat) (S D : Array Value) (hS : S.size = 17) (hD : D.size = 17) : Try.prog.built 103 [(0, .int .i64 (s : Int)), (1, .int .i64 (l : Int)), (2, .int .u8 (p : Int)), (3, .agg S), (4, .agg D)] = some (hcells s l p S D) := by
  obtain ⟨x0, x1, x2, x3, x4, x5, x6, x7, x8, x9, x10, x11, x12, x13, x14, x15, x16, rfl⟩ := arr17 S hS
  obtain ⟨y0, y1, y2, y3, y4, y5, y6, y7, y8, y9, y10, y11, y12, y13, y14, y15, y16, rfl⟩ := arr17 D hD
  kernel_rfl
set_option maxRecDepth 100000 in
theorem i29 : (Try.prog.info? 103).map (·.size) = some 37 := by kernel_rfl
set_option maxRecDepth 100000 in
set_option maxHeartbeats 1000000 in
theorem read4_no (v : Value) (zs : List Nat) (w : World) (hr : Rd w v (nus .u8 zs)) (hb : ∀ c ∈ zs, c < 256) (h : ff zs ≠ 0) :
    Calls Try.prog 53 #[v] w fun e w' => e = .returned (.tuple #[.agg h0, .int .i64 (ff zs : Nat)]) ∧ Below w.heap.size w w' := by
  have B0 := (Below.refl w.heap.size w).alloc (Nat.le_refl _) (.cells h0 103)
  have HF := Lib.hid (fault4_any v zs _ (hr.below B0) hb)
  have hlt := ff_lt zs
  have HN := Lib.hid (Blk.new w 103 h0)
  have HB := Lib.hid B0
  obtain ⟨a, cap, rfl, -, -⟩ := rd_shape hr
  obtain ⟨r, hre⟩ : ∃ r, r = ff zs := ⟨_, rfl⟩
  rw [← hre] at HF h hlt ⊢
  generalize zs.length = n at *
  clear hr hb hre B0
  go_enter Try.func53, Try.ntmps53
  go_wp2_with fail
  refine HF.out.mono ?_; rintro e W1 ⟨rfl, hb⟩
  have HN1 := Lib.hid (HN.out.below hb HN.out.lt)
  have HB1 := Lib.hid (HB.out.trans (hb.mono HB.out.size))
  clear hb HN HB HF
  have g0 : ((r : Int) != 0) = true := by simp; omega
  clear h
  have Z := Lib.hid (i29.trans (congrArg some h0_size.symm))
  have A := Lib.hid h0_all
  go_wp2_with ((refine wpList_blk_store (op := ⟨none, .store 103 (.tmp 2) (.tmp 13), _, _, _, _⟩) rfl 103 (.tmp 2) (.tmp 13) rfl w.heap.size h0 (by rfl) (by rfl) HN1.out rfl Z.out A.out ?_))
  intro W2 hA hF hB
  have HB2 := Lib.hid (HB1.out.trans (hB _ (Nat.le_refl _)))
  have HA := Lib.hid hA
  clear hA hF hB
  go_wp2
  have hrun := run_blk_load (P := Try.prog) 103 w.heap.size _ HA.out Try.underlying103 rfl Z.out
  exact bodyPost_ret (results_cell_tmp 2 103 3 w.heap.size _ Try.results53 rfl hrun) rfl ⟨rfl, HB2.out⟩
set_option maxRecDepth 100000 in
set_option maxHeartbeats 1000000 in
theorem read4_yes (v : Value) (zs : List Nat) (w : World) (hr : Rd w v (nus .u8 zs)) (hb : ∀ c ∈ zs, c < 256) (h : ff zs = 0) :
    Calls Try.prog 53 #[v] w fun e w' => e = .returned (.tuple #[.agg (hd zs), .int .i64 0]) ∧ Below w.heap.size w w' := by
  obtain ⟨h20, -, -, -, -, -, -, -⟩ := ff_yes zs h
  have B0 := (Below.refl w.heap.size w).alloc (Nat.le_refl _) (.cells h0 103)
  have HF := Lib.hid (fault4_any v zs _ (hr.below B0) hb)
  rw [h] at HF
  have HN := Lib.hid (Blk.new w 103 h0)
  have HB := Lib.hid B0
  have HR := Lib.hid hr
  obtain ⟨a, cap, rfl, h1, h2⟩ := rd_shape hr
  obtain ⟨b, off, rfl, hc⟩ := hr.cells (by omega)
  obtain ⟨S, hS⟩ : ∃ S, S = a4 ((zs.drop 12).take 4) := ⟨_, rfl⟩
  obtain ⟨D, hD⟩ : ∃ D, D = a4 ((zs.drop 16).take 4) := ⟨_, rfl⟩
  have l1 : ((zs.drop 12).take 4).length = 4 := by simp; omega
  have l2 : ((zs.drop 16).take 4).length = 4 := by simp; omega
  have C1 := Lib.hid (fun w' (hw : Rd w' (.slice (some ⟨b, off + 12, none⟩) 4 (cap - 12)) (nus .u8 ((zs.drop 12).take 4))) => from_ok _ false ((zs.drop 12).take 4) w' hw (.inl ⟨l1, rfl⟩))
  have C2 := Lib.hid (fun w' (hw : Rd w' (.slice (some ⟨b, off + 16, none⟩) 4 (cap - 16)) (nus .u8 ((zs.drop 16).take 4))) => from_ok _ false ((zs.drop 16).take 4) w' hw (.inl ⟨l2, rfl⟩))
  have R1 := Lib.hid (hr.sub 12 4 (by omega))
  have R2 := Lib.hid (hr.sub 16 4 (by omega))
  rw [show adr false ((zs.drop 12).take 4 ++ List.replicate (16 - ((zs.drop 12).take 4).length) 0) = .agg S from by rw [hS]; rfl] at C1
  rw [show adr false ((zs.drop 16).take 4 ++ List.replicate (16 - ((zs.drop 16).take 4).length) 0) = .agg D from by rw [hD]; rfl] at C2
  have hsS := a4_size ((zs.drop 12).take 4) (by omega)
  have hsD := a4_size ((zs.drop 16).take 4) (by omega)
  have haS := a4_all ((zs.drop 12).take 4)
  have haD := a4_all ((zs.drop 16).take 4)
  have hh : hd zs = hcells (hs zs) (u2 zs 2) (zs.getD 9 0) S D := by unfold hd; rw [if_pos h, hS, hD]
  rw [← hS] at hsS haS
  rw [← hD] at hsD haD
  have c9 := hc 9 (by omega)
  unfold maxLen at h2
  clear hc l1 l2 hS hD B0
  generalize (zs.drop 12).take 4 = Sb at *
  generalize (zs.drop 16).take 4 = Db at *
  have HSS := Lib.hid (i24.trans (congrArg some hsS.symm))
  have HSD := Lib.hid (i24.trans (congrArg some hsD.symm))
  have HAS := Lib.hid haS
  have HAD := Lib.hid haD
  have HZS := Lib.hid (hsS.trans (cellsA_size false (List.replicate 16 0)).symm)
  have HZD := Lib.hid (hsD.trans (cellsA_size false (List.replicate 16 0)).symm)
  have CS := Lib.hid (fun W (hw : Rd W (.slice (some ⟨b, off, none⟩) zs.length cap) (nus .u8 zs)) => sizeOf_any _ zs W hw hb (by omega))
  have CW := Lib.hid (fun W (hw : Rd W (.slice (some ⟨b, off, none⟩) zs.length cap) (nus .u8 zs)) => word4_any _ 2 zs W hw hb (by omega))
  have hbuild := built_head (hs zs) (u2 zs 2) (zs.getD 9 0) S D hsS hsD
  have HBD := Lib.hid hbuild
  have hcs := hcells_size (hs zs) (u2 zs 2) (zs.getD 9 0) S D hsS hsD
  have hca := hcells_all (hs zs) (u2 zs 2) (zs.getD 9 0) S D haS haD
  rw [hh]
  have hl := u2_lt zs 2 hb
  have hs4 := hs_lt zs
  clear hbuild hh hb h hr
  generalize hs zs = s at *
  generalize u2 zs 2 = l at *
  generalize zs.getD 9 0 = p at *
  generalize zs.length = n at *
  obtain ⟨hc, hhc⟩ : ∃ x, x = hcells s l p S D := ⟨_, rfl⟩
  rw [← hhc] at HBD hcs hca ⊢
  have Z := Lib.hid (i29.trans (congrArg some hcs.symm))
  have Z0 := Lib.hid (hcs.trans h0_size.symm)
  have AC := Lib.hid hca
  have h9n : (9 : Int) < (n : Int) := by omega
  have hlw : IntKind.i64.wrap (l : Int) = (l : Int) := by rw [IntKind.wrap_i64]; omega
  clear hcs hca hhc hsS hsD haS haD
  go_enter Try.func53, Try.ntmps53
  go_wp2_with fail
  refine HF.out.mono ?_; rintro e W1 ⟨rfl, hb1⟩
  have HN1 := Lib.hid (HN.out.below hb1 HN.out.lt)
  have HB1 := Lib.hid (HB.out.trans (hb1.mono HB.out.size))
  clear hb1 HN HB HF
  go_wp2_with fail
  refine (C1.out _ (R1.out.below HB1.out)).mono ?_; rintro e W2 ⟨rfl, hb1⟩
  have K1 := Lib.hid (HB1.out.trans (hb1.mono HB1.out.size))
  have N1 := Lib.hid (HN1.out.below hb1 HN1.out.lt)
  clear hb1 HN1 HB1
  go_wp2_with ((refine wpList_blk_store (op := ⟨none, .store 26 (.tmp 5) (.tmp 19), _, _, _, _⟩) rfl 26 (.tmp 5) (.tmp 19) rfl W2.heap.size S (by rfl) (by rfl) (Blk.new W2 26 (cellsA false (List.replicate 16 0))) HZS.out HSS.out HAS.out ?_))
  intro W3 hA hF hB
  have K2 := Lib.hid ((K1.out.alloc K1.out.size (.cells (cellsA false (List.replicate 16 0)) 26)).trans (hB _ K1.out.size))
  have N2 := Lib.hid ((N1.out.alloc (.cells (cellsA false (List.replicate 16 0)) 26)).below (hB _ (Nat.le_refl _)) N1.out.lt)
  have A2 := Lib.hid hA
  clear hA hF hB K1 N1
  go_wp2_with fail
  refine (C2.out _ (R2.out.below K2.out)).mono ?_; rintro e W4 ⟨rfl, hb1⟩
  have K3 := Lib.hid (K2.out.trans (hb1.mono K2.out.size))
  have N3 := Lib.hid (N2.out.below hb1 N2.out.lt)
  have A3 := Lib.hid (A2.out.below hb1 A2.out.lt)
  clear hb1 K2 N2 A2 C1 C2 R1 R2
  go_wp2_with ((refine wpList_blk_store (op := ⟨none, .store 26 (.tmp 7) (.tmp 25), _, _, _, _⟩) rfl 26 (.tmp 7) (.tmp 25) rfl W4.heap.size D (by rfl) (by rfl) (Blk.new W4 26 (cellsA false (List.replicate 16 0))) HZD.out HSD.out HAD.out ?_))
  intro W5 hA hF hB
  have K4 := Lib.hid ((K3.out.alloc K3.out.size (.cells (cellsA false (List.replicate 16 0)) 26)).trans (hB _ K3.out.size))
  have N4 := Lib.hid ((N3.out.alloc (.cells (cellsA false (List.replicate 16 0)) 26)).below (hB _ (Nat.le_refl _)) N3.out.lt)
  have A4 := Lib.hid ((A3.out.alloc (.cells (cellsA false (List.replicate 16 0)) 26)).below (hB _ (Nat.le_refl _)) A3.out.lt)
  have D4 := Lib.hid hA
  clear hA hF hB K3 N3 A3
  go_wp2_with fail
  refine wp_region_still_tail 11 (by kernel_rfl) (by kernel_rfl) ?_
  change wpStill _ _ W5.drew (fun a' => wpList _ _ _ _ a' W5.drew) _ _
  have K5 := Lib.hid K4.out.drew
  have N5 := Lib.hid N4.out.drew
  have A5 := Lib.hid A4.out.drew
  have D5 := Lib.hid D4.out.drew
  generalize W5.drew = W6 at K5 N5 A5 D5 ⊢
  clear K4 N4 A4 D4
  have hb0 : b < w.heap.size := by
    rcases Nat.lt_or_ge b w.heap.size with h | h
    · exact h
    · simp [World.cell?, Array.getElem?_eq_none h] at c9
  have c9' := (K5.out.cell (p := ⟨b, off + 9, none⟩) hb0).trans c9
  have hA := run_blk_load (P := Try.prog) 26 W2.heap.size _ A5.out Try.underlying26 rfl HSS.out
  have hD := run_blk_load (P := Try.prog) 26 W4.heap.size _ D5.out Try.underlying26 rfl HSD.out
  have HA := Lib.hid hA
  have HD := Lib.hid hD
  clear hA hD
  simp only [List.take_succ_cons, List.take_zero, List.drop_succ_cons, List.drop_zero]
  still_step
  still_call ((CS.out _ (HR.out.below K5.out)).mono fun e w' h => ⟨h.1, h.2.symm⟩)
  still_step
  still_call ((CW.out _ (HR.out.below K5.out)).mono fun e w' h => ⟨h.1, h.2.symm⟩)
  still_step
  still_step
  still_step
  still_step

  refine wpStill_step (fun K hK => ?_)
  rw [if_pos (by rfl)]
  refine still_load 26 (.tmp 5) rfl _ rfl (.agg S) HA.out (hK _ ?_)
  clear hK K
  refine wpStill_step (fun K hK => ?_)
  rw [if_pos (by rfl)]
  refine still_load 26 (.tmp 7) rfl _ rfl (.agg D) HD.out (hK _ ?_)
  clear hK K
  refine wpStill_step (fun K hK => ?_)
  rw [if_pos (by rfl)]
  refine still_build2 103 _ rfl #[(0, .int .i64 (s : Int)), (1, .int .i64 (l : Int)), (2, .int .u8 (p : Int)), (3, .agg S), (4, .agg D)] (by kernel_rfl) hc HBD.out (hK _ ?_)
  clear hK K
  refine wpStill_nil ?_
  simp only [Act.put, List.setIfInBounds_toArray, List.set_cons_zero, List.set_cons_succ]
  go_wp2_with ((refine wpList_blk_store (op := ⟨none, .store 103 (.tmp 2) (.tmp 37), _, _, _, _⟩) rfl 103 (.tmp 2) (.tmp 37) rfl w.heap.size hc (by rfl) (by rfl) N5.out Z0.out Z.out AC.out ?_))
  intro W7 hA hF hB
  have K7 := Lib.hid (K5.out.trans (hB _ (Nat.le_refl _)))
  have HA := Lib.hid hA
  clear hA hF hB
  go_wp2
  have hrun := run_blk_load (P := Try.prog) 103 w.heap.size _ HA.out Try.underlying103 rfl Z.out
  exact bodyPost_ret (results_cell_tmp 2 103 3 w.heap.size _ Try.results53 rfl hrun) rfl ⟨rfl, K7.out⟩
set_option maxRecDepth 100000 in
theorem read4_any (v : Value) (zs : List Nat) (w : World) (hr : Rd w v (nus .u8 zs)) (hb : ∀ c ∈ zs, c < 256) :
    Calls Try.prog 53 #[v] w fun e w' => e = .returned (.tuple #[.agg (hd zs), .int .i64 (ff zs : Nat)]) ∧ Below w.heap.size w w' := by
  by_cases h : ff zs = 0
  · have := read4_yes v zs w hr hb h
    rw [h]; exact this
  · have := read4_no v zs w hr hb h
    have e : hd zs = h0 := by unfold hd; rw [if_neg h]
    rw [e]; exact this
end Go.Proofs.Ytopfbgoiehlhbaa

/- ipsix.lengthOf, ipsix.fault. -/
namespace Go.Proofs.Ytopfbgoiehlhbaa
open Go.RowKit
set_option maxRecDepth 100000 in
set_option maxHeartbeats 400000 in
theorem plen_any (v : Value) (zs : List Nat) (w : World) (hr : Rd w v (nus .u8 zs)) (hb : ∀ c ∈ zs, c < 256) (hk : 40 ≤ zs.length) :
    Calls Try.prog 70 #[v] w fun e w' => e = .returned (.int .i64 ((40 + u2 zs 4 : Nat) : Int)) ∧ w = w' := by
  have H := Lib.hid (get16_yes v 4 zs w hr hb (by omega))
  have HE := Lib.hid (be_u2 zs 4 (by omega))
  have hl := u2_lt zs 4 hb
  generalize u2 zs 4 = l at *
  have HG := Lib.hid (show ((40 + l : Nat) : Int) = 40 + (l : Int) by omega)
  clear hr hb hk
  go_enter Try.func70, Try.ntmps70
  go_wp2_with fail
  refine H.out.mono ?_; rintro e w' ⟨rfl, rfl⟩
  rw [HE.out]
  go_wp2
  go_ret
  exact ⟨ret_int (by rw [HG.out]), rfl⟩
set_option maxRecDepth 100000 in
set_option maxHeartbeats 1000000 in
theorem fault6_any (v : Value) (zs : List Nat) (w : World) (hr : Rd w v (nus .u8 zs)) (hb : ∀ c ∈ zs, c < 256) :
    Calls Try.prog 68 #[v] w fun e w' => e = .returned (.int .i64 (f6 zs : Nat)) ∧ w = w' := by
  obtain ⟨a, cap, rfl, h1, h2⟩ := rd_shape hr
  by_cases h40 : zs.length < 40
  · have hf : f6 zs = 1 := by unfold f6; rw [if_pos h40]
    rw [hf]
    unfold maxLen at h2
    clear hr hb hf
    go_enter Try.func68, Try.ntmps68
    go_wp2
    go_ret
    exact ⟨rfl, rfl⟩
  obtain ⟨b, off, rfl, hc⟩ := hr.cells (by omega)
  have c0 := hc 0 (by omega)
  have c6 := hc 6 (by omega)
  have PL := Lib.hid (plen_any _ zs w hr hb (by omega))
  have hx := getD_lt zs hb 0
  have hp := getD_lt zs hb 6
  have hl := u2_lt zs 4 hb
  unfold maxLen at h2
  rw [Nat.add_zero] at c0
  clear hc hr hb
  obtain ⟨F, hFe⟩ : ∃ F, F = f6 zs := ⟨_, rfl⟩
  rw [← hFe]
  unfold f6 at hFe
  rw [if_neg h40] at hFe
  have HF := Lib.hid hFe
  clear hFe
  generalize zs.getD 0 0 = x at *
  generalize zs.getD 6 0 = p at *
  generalize u2 zs 4 = l at *
  generalize zs.length = n at *
  by_cases h6 : x / 16 = 6
  case neg =>
    have hf : F = 3 := by rw [HF.out, if_pos h6]
    have g4 : ((x : Int) / 16 != 6) = true := by rw [bne_iff_ne]; omega
    subst hf
    clear h6
    go_enter Try.func68, Try.ntmps68
    go_wp2
    go_ret
    exact ⟨rfl, rfl⟩
  have g4 : ((x : Int) / 16 != 6) = false := by rw [bne_eq_false_iff_eq]; omega
  rw [if_neg (by omega)] at HF
  clear h6
  go_enter Try.func68, Try.ntmps68
  go_wp2_with fail
  refine PL.out.mono ?_; rintro e w' ⟨rfl, rfl⟩
  clear PL
  by_cases hnl : n < 40 + l
  · have hf : F = 1 := by rw [HF.out, if_pos hnl]
    have gl : decide (n < 40 + l) = true := decide_eq_true hnl
    subst hf
    go_wp2
    go_ret
    exact ⟨rfl, rfl⟩
  have gl : decide (n < 40 + l) = false := decide_eq_false hnl
  rw [if_neg hnl] at HF
  by_cases hp44 : p = 44
  · have hf : F = 5 := by rw [HF.out, if_pos hp44]
    subst hf hp44
    go_wp2
    go_ret
    exact ⟨rfl, rfl⟩
  rw [if_neg hp44] at HF
  by_cases hp6 : p = 6
  · have hf : F = 0 := by rw [HF.out, if_neg (by omega)]
    subst hf hp6
    go_wp2
    go_ret
    exact ⟨rfl, rfl⟩
  by_cases hp17 : p = 17
  · have hf : F = 0 := by rw [HF.out, if_neg (by omega)]
    subst hf hp17
    go_wp2
    go_ret
    exact ⟨rfl, rfl⟩
  have hf : F = 6 := by rw [HF.out, if_pos ⟨hp6, hp17⟩]
  have g6 : ((p : Int) == 6) = false := by rw [beq_eq_false_iff_ne]; omega
  have g17 : ((p : Int) == 17) = false := by rw [beq_eq_false_iff_ne]; omega
  have g44 : ((p : Int) == 44) = false := by rw [beq_eq_false_iff_ne]; omega
  subst hf
  clear hp6 hp17 hp44
  go_wp2
  go_ret
  exact ⟨rfl, rfl⟩
end Go.Proofs.Ytopfbgoiehlhbaa

/- ipsix.Read. -/
namespace Go.Proofs.Ytopfbgoiehlhbaa
open Go.RowKit
set_option maxRecDepth 100000 in
theorem i100 : (Try.prog.info? 100).map (·.size) = some 36 := by kernel_rfl
set_option maxRecDepth 100000 in
theorem built_s (l p : Nat) (S D : Array Value) (hS : S.size = 17) (hD : D.size = 17) : Try.prog.built 100 [(0, .int .i64 (l : Int)), (1, .int .u8 (p : Int)), (2, .agg S), (3, .agg D)] = some (scells l p S D) := by
  obtain ⟨x0, x1, x2, x3, x4, x5, x6, x7, x8, x9, x10, x11, x12, x13, x14, x15, x16, rfl⟩ := arr17 S hS
  obtain ⟨y0, y1, y2, y3, y4, y5, y6, y7, y8, y9, y10, y11, y12, y13, y14, y15, y16, rfl⟩ := arr17 D hD
  kernel_rfl
set_option maxRecDepth 100000 in
set_option maxHeartbeats 1000000 in
theorem read6_no (v : Value) (zs : List Nat) (w : World) (hr : Rd w v (nus .u8 zs)) (hb : ∀ c ∈ zs, c < 256) (h : f6 zs ≠ 0) :
    Calls Try.prog 52 #[v] w fun e w' => e = .returned (.tuple #[.agg s0, .int .i64 (f6 zs : Nat)]) ∧ Below w.heap.size w w' := by
  have CF := Lib.hid (fun W (h : Rd W v (nus .u8 zs)) => fault6_any v zs W h hb)
  have hlt := f6_lt zs
  have K := Lib.hid (Below.refl w.heap.size w)
  have HR := Lib.hid hr
  obtain ⟨a, cap, rfl, -, -⟩ := rd_shape hr
  have Y0 : Hid (s0.size = Array.size (#[Value.int .i64 0, .int .u8 0, .bool false, .int .u8 0, .int .u8 0, .int .u8 0, .int .u8 0, .int .u8 0, .int .u8 0, .int .u8 0, .int .u8 0, .int .u8 0, .int .u8 0, .int .u8 0, .int .u8 0, .int .u8 0, .int .u8 0, .int .u8 0, .int .u8 0, .bool false, .int .u8 0, .int .u8 0, .int .u8 0, .int .u8 0, .int .u8 0, .int .u8 0, .int .u8 0, .int .u8 0, .int .u8 0, .int .u8 0, .int .u8 0, .int .u8 0, .int .u8 0, .int .u8 0, .int .u8 0, .int .u8 0] : Array Value)) := s0_size
  have Z0 := Lib.hid (i100.trans (congrArg some s0_size.symm))
  have A0 := Lib.hid s0_all
  generalize f6 zs = r at *
  generalize zs.length = n at *
  have g0 : ((r : Int) != 0) = true := by simp; omega
  clear hr hb h
  go_enter Try.func52, Try.ntmps52
  have hal := (Below.refl w.heap.size w).alloc (Nat.le_refl _) (.cells #[Value.int .i64 0, .int .u8 0, .bool false, .int .u8 0, .int .u8 0, .int .u8 0, .int .u8 0, .int .u8 0, .int .u8 0, .int .u8 0, .int .u8 0, .int .u8 0, .int .u8 0, .int .u8 0, .int .u8 0, .int .u8 0, .int .u8 0, .int .u8 0, .int .u8 0, .bool false, .int .u8 0, .int .u8 0, .int .u8 0, .int .u8 0, .int .u8 0, .int .u8 0, .int .u8 0, .int .u8 0, .int .u8 0, .int .u8 0, .int .u8 0, .int .u8 0, .int .u8 0, .int .u8 0, .int .u8 0, .int .u8 0] 100)
  replace K := Lib.hid (K.out.trans (hal.mono K.out.size))
  replace HR := Lib.hid (HR.out.below hal)
  have HH := Lib.hid (Blk.new w 100 #[Value.int .i64 0, .int .u8 0, .bool false, .int .u8 0, .int .u8 0, .int .u8 0, .int .u8 0, .int .u8 0, .int .u8 0, .int .u8 0, .int .u8 0, .int .u8 0, .int .u8 0, .int .u8 0, .int .u8 0, .int .u8 0, .int .u8 0, .int .u8 0, .int .u8 0, .bool false, .int .u8 0, .int .u8 0, .int .u8 0, .int .u8 0, .int .u8 0, .int .u8 0, .int .u8 0, .int .u8 0, .int .u8 0, .int .u8 0, .int .u8 0, .int .u8 0, .int .u8 0, .int .u8 0, .int .u8 0, .int .u8 0])
  clear hal
  go_wp2_with fail
  generalize (w.alloc (.cells #[Value.int .i64 0, .int .u8 0, .bool false, .int .u8 0, .int .u8 0, .int .u8 0, .int .u8 0, .int .u8 0, .int .u8 0, .int .u8 0, .int .u8 0, .int .u8 0, .int .u8 0, .int .u8 0, .int .u8 0, .int .u8 0, .int .u8 0, .int .u8 0, .int .u8 0, .bool false, .int .u8 0, .int .u8 0, .int .u8 0, .int .u8 0, .int .u8 0, .int .u8 0, .int .u8 0, .int .u8 0, .int .u8 0, .int .u8 0, .int .u8 0, .int .u8 0, .int .u8 0, .int .u8 0, .int .u8 0, .int .u8 0] 100)) = V1 at *
  refine (CF.out _ HR.out).mono ?_
  rintro e V2 ⟨rfl, rfl⟩
  go_wp2_with (((with_reducible refine wpList_blk_store (op := ⟨none, .store 100 (.tmp 2) (.tmp 13), _, _, _, _⟩) ?sg1 100 (.tmp 2) (.tmp 13) ?so1 (w.heap.size) s0 ?sx1 ?sy1 HH.out Y0.out Z0.out A0.out ?_); (case sg1 => rfl); (case so1 => rfl); (case sx1 => rfl); (case sy1 => rfl)))
  intro V3 hA hF hB
  replace K := Lib.hid (K.out.trans (hB _ (by omega)))
  -- HR: not brought over
  replace HH := Lib.hid hA
  clear hA hF hB
  go_wp2
  have hrun := run_blk_load (P := Try.prog) 100 w.heap.size _ HH.out Try.underlying100 rfl Z0.out
  exact bodyPost_ret (results_cell_tmp 2 100 3 w.heap.size _ Try.results52 rfl hrun) rfl ⟨rfl, K.out⟩
set_option maxRecDepth 100000 in
set_option maxHeartbeats 1000000 in
theorem read6_yes (v : Value) (zs : List Nat) (w : World) (hr : Rd w v (nus .u8 zs)) (hb : ∀ c ∈ zs, c < 256) (h : f6 zs = 0) :
    Calls Try.prog 52 #[v] w fun e w' => e = .returned (.tuple #[.agg (hd6 zs), .int .i64 0]) ∧ Below w.heap.size w w' := by
  obtain ⟨h40, -, -, -⟩ := f6_yes zs h
  have CF := Lib.hid (fun W (h : Rd W v (nus .u8 zs)) => fault6_any v zs W h hb)
  rw [h] at CF
  have CL := Lib.hid (fun W (h : Rd W v (nus .u8 zs)) => plen_any v zs W h hb h40)
  have K := Lib.hid (Below.refl w.heap.size w)
  have HR := Lib.hid hr
  obtain ⟨a, cap, rfl, hlc, hlm⟩ := rd_shape hr
  obtain ⟨b, off, rfl, hce⟩ := hr.cells (by omega)
  have C6 := hce 6 (by omega)
  have hb0 := rd_cell C6
  have c6 := Lib.hid C6
  have HS := Lib.hid (hr.sub 8 16 (by omega))
  have HD := Lib.hid (hr.sub 24 16 (by omega))
  have l1 : ((zs.drop 8).take 16).length = 16 := by simp; omega
  have l2 : ((zs.drop 24).take 16).length = 16 := by simp; omega
  have C1 := Lib.hid (fun w' z (hw : Rd w' z (nus .u8 ((zs.drop 8).take 16))) => from_ok z true _ w' hw (.inr ⟨l1, rfl⟩))
  have C2 := Lib.hid (fun w' z (hw : Rd w' z (nus .u8 ((zs.drop 24).take 16))) => from_ok z true _ w' hw (.inr ⟨l2, rfl⟩))
  rw [l1, show (zs.drop 8).take 16 ++ List.replicate (16 - 16) 0 = (zs.drop 8).take 16 from by simp, show adr true ((zs.drop 8).take 16) = .agg (srcA zs) from rfl] at C1
  rw [l2, show (zs.drop 24).take 16 ++ List.replicate (16 - 16) 0 = (zs.drop 24).take 16 from by simp, show adr true ((zs.drop 24).take 16) = .agg (dstA zs) from rfl] at C2
  have hh : hd6 zs = scells (40 + u2 zs 4) (zs.getD 6 0) (srcA zs) (dstA zs) := by unfold hd6; rw [if_pos h]
  obtain ⟨sS, sD⟩ := ad_size zs h40
  have aS : (srcA zs).all (·.oneCell') = true := cellsA_all _ _
  have aD : (dstA zs).all (·.oneCell') = true := cellsA_all _ _
  rw [hh]
  generalize srcA zs = S at *
  generalize dstA zs = D at *
  generalize u2 zs 4 = l at *
  generalize zs.getD 6 0 = p at *
  have hbd := built_s (40 + l) p S D sS sD
  have hs := scells_size (40 + l) p S D sS sD
  have ha := scells_all (40 + l) p S D aS aD
  generalize scells (40 + l) p S D = H at *
  have HB := Lib.hid hbd
  have YS : Hid (S.size = Array.size (#[Value.bool false, .int .u8 0, .int .u8 0, .int .u8 0, .int .u8 0, .int .u8 0, .int .u8 0, .int .u8 0, .int .u8 0, .int .u8 0, .int .u8 0, .int .u8 0, .int .u8 0, .int .u8 0, .int .u8 0, .int .u8 0, .int .u8 0] : Array Value)) := sS
  have ZS := Lib.hid (i24.trans (congrArg some sS.symm))
  have AS := Lib.hid aS
  have YD : Hid (D.size = Array.size (#[Value.bool false, .int .u8 0, .int .u8 0, .int .u8 0, .int .u8 0, .int .u8 0, .int .u8 0, .int .u8 0, .int .u8 0, .int .u8 0, .int .u8 0, .int .u8 0, .int .u8 0, .int .u8 0, .int .u8 0, .int .u8 0, .int .u8 0] : Array Value)) := sD
  have ZD := Lib.hid (i24.trans (congrArg some sD.symm))
  have AD := Lib.hid aD
  have YH : Hid (H.size = Array.size (#[Value.int .i64 0, .int .u8 0, .bool false, .int .u8 0, .int .u8 0, .int .u8 0, .int .u8 0, .int .u8 0, .int .u8 0, .int .u8 0, .int .u8 0, .int .u8 0, .int .u8 0, .int .u8 0, .int .u8 0, .int .u8 0, .int .u8 0, .int .u8 0, .int .u8 0, .bool false, .int .u8 0, .int .u8 0, .int .u8 0, .int .u8 0, .int .u8 0, .int .u8 0, .int .u8 0, .int .u8 0, .int .u8 0, .int .u8 0, .int .u8 0, .int .u8 0, .int .u8 0, .int .u8 0, .int .u8 0, .int .u8 0] : Array Value)) := hs
  have ZH := Lib.hid (i100.trans (congrArg some hs.symm))
  have AH := Lib.hid ha
  unfold maxLen at hlm
  have h6n : (6 : Int) < (zs.length : Int) := by omega
  clear hr hb h hce sS sD aS aD hs ha hbd l1 l2 hh C6
  generalize zs.length = n at *
  go_enter Try.func52, Try.ntmps52
  have hal := (Below.refl w.heap.size w).alloc (Nat.le_refl _) (.cells #[Value.int .i64 0, .int .u8 0, .bool false, .int .u8 0, .int .u8 0, .int .u8 0, .int .u8 0, .int .u8 0, .int .u8 0, .int .u8 0, .int .u8 0, .int .u8 0, .int .u8 0, .int .u8 0, .int .u8 0, .int .u8 0, .int .u8 0, .int .u8 0, .int .u8 0, .bool false, .int .u8 0, .int .u8 0, .int .u8 0, .int .u8 0, .int .u8 0, .int .u8 0, .int .u8 0, .int .u8 0, .int .u8 0, .int .u8 0, .int .u8 0, .int .u8 0, .int .u8 0, .int .u8 0, .int .u8 0, .int .u8 0] 100)
  replace K := Lib.hid (K.out.trans (hal.mono K.out.size))
  replace HR := Lib.hid (HR.out.below hal)
  replace HS := Lib.hid (HS.out.below hal)
  replace HD := Lib.hid (HD.out.below hal)
  have HH := Lib.hid (Blk.new w 100 #[Value.int .i64 0, .int .u8 0, .bool false, .int .u8 0, .int .u8 0, .int .u8 0, .int .u8 0, .int .u8 0, .int .u8 0, .int .u8 0, .int .u8 0, .int .u8 0, .int .u8 0, .int .u8 0, .int .u8 0, .int .u8 0, .int .u8 0, .int .u8 0, .int .u8 0, .bool false, .int .u8 0, .int .u8 0, .int .u8 0, .int .u8 0, .int .u8 0, .int .u8 0, .int .u8 0, .int .u8 0, .int .u8 0, .int .u8 0, .int .u8 0, .int .u8 0, .int .u8 0, .int .u8 0, .int .u8 0, .int .u8 0])
  clear hal
  go_wp2_with fail
  generalize (w.alloc (.cells #[Value.int .i64 0, .int .u8 0, .bool false, .int .u8 0, .int .u8 0, .int .u8 0, .int .u8 0, .int .u8 0, .int .u8 0, .int .u8 0, .int .u8 0, .int .u8 0, .int .u8 0, .int .u8 0, .int .u8 0, .int .u8 0, .int .u8 0, .int .u8 0, .int .u8 0, .bool false, .int .u8 0, .int .u8 0, .int .u8 0, .int .u8 0, .int .u8 0, .int .u8 0, .int .u8 0, .int .u8 0, .int .u8 0, .int .u8 0, .int .u8 0, .int .u8 0, .int .u8 0, .int .u8 0, .int .u8 0, .int .u8 0] 100)) = V1 at *
  refine (CF.out _ HR.out).mono ?_
  rintro e V2 ⟨rfl, rfl⟩
  go_wp2_with fail
  refine (C1.out _ _ HS.out).mono ?_
  rintro e V3 ⟨rfl, hy⟩
  replace K := Lib.hid (K.out.trans (hy.mono K.out.size))
  replace HR := Lib.hid (HR.out.below hy)
  replace HS := Lib.hid (HS.out.below hy)
  replace HD := Lib.hid (HD.out.below hy)
  replace HH := Lib.hid (HH.out.below hy HH.out.lt)
  clear hy
  go_wp2_with (((with_reducible refine wpList_blk_store (op := ⟨none, .store 26 (.tmp 5) (.tmp 19), _, _, _, _⟩) ?sg2 26 (.tmp 5) (.tmp 19) ?so2 (V3.heap.size) S ?sx2 ?sy2 (Blk.new V3 26 #[Value.bool false, .int .u8 0, .int .u8 0, .int .u8 0, .int .u8 0, .int .u8 0, .int .u8 0, .int .u8 0, .int .u8 0, .int .u8 0, .int .u8 0, .int .u8 0, .int .u8 0, .int .u8 0, .int .u8 0, .int .u8 0, .int .u8 0]) YS.out ZS.out AS.out ?_); (case sg2 => rfl); (case so2 => rfl); (case sx2 => rfl); (case sy2 => rfl)))
  have qHHNS : w.heap.size < V3.heap.size := HH.out.lt
  intro V4 hA hF hB
  have hy := ((Below.refl V3.heap.size V3).alloc (Nat.le_refl _) (.cells #[Value.bool false, .int .u8 0, .int .u8 0, .int .u8 0, .int .u8 0, .int .u8 0, .int .u8 0, .int .u8 0, .int .u8 0, .int .u8 0, .int .u8 0, .int .u8 0, .int .u8 0, .int .u8 0, .int .u8 0, .int .u8 0, .int .u8 0] 26)).trans (hB _ (Nat.le_refl _))
  replace K := Lib.hid (K.out.trans (hy.mono K.out.size))
  replace HR := Lib.hid (HR.out.below hy)
  replace HS := Lib.hid (HS.out.below hy)
  replace HD := Lib.hid (HD.out.below hy)
  replace HH := Lib.hid (HH.out.below hy HH.out.lt)
  have NS := Lib.hid hA
  clear hA hF hB hy
  go_wp2_with fail
  refine (C2.out _ _ HD.out).mono ?_
  rintro e V5 ⟨rfl, hy⟩
  replace K := Lib.hid (K.out.trans (hy.mono K.out.size))
  replace HR := Lib.hid (HR.out.below hy)
  replace HS := Lib.hid (HS.out.below hy)
  replace HD := Lib.hid (HD.out.below hy)
  replace HH := Lib.hid (HH.out.below hy HH.out.lt)
  replace NS := Lib.hid (NS.out.below hy NS.out.lt)
  clear hy
  go_wp2_with (((with_reducible refine wpList_blk_store (op := ⟨none, .store 26 (.tmp 7) (.tmp 25), _, _, _, _⟩) ?sg3 26 (.tmp 7) (.tmp 25) ?so3 (V5.heap.size) D ?sx3 ?sy3 (Blk.new V5 26 #[Value.bool false, .int .u8 0, .int .u8 0, .int .u8 0, .int .u8 0, .int .u8 0, .int .u8 0, .int .u8 0, .int .u8 0, .int .u8 0, .int .u8 0, .int .u8 0, .int .u8 0, .int .u8 0, .int .u8 0, .int .u8 0, .int .u8 0]) YD.out ZD.out AD.out ?_); (case sg3 => rfl); (case so3 => rfl); (case sx3 => rfl); (case sy3 => rfl)))
  have qHHND : w.heap.size < V5.heap.size := HH.out.lt
  have qNSND : V3.heap.size < V5.heap.size := NS.out.lt
  intro V6 hA hF hB
  have hy := ((Below.refl V5.heap.size V5).alloc (Nat.le_refl _) (.cells #[Value.bool false, .int .u8 0, .int .u8 0, .int .u8 0, .int .u8 0, .int .u8 0, .int .u8 0, .int .u8 0, .int .u8 0, .int .u8 0, .int .u8 0, .int .u8 0, .int .u8 0, .int .u8 0, .int .u8 0, .int .u8 0, .int .u8 0] 26)).trans (hB _ (Nat.le_refl _))
  replace K := Lib.hid (K.out.trans (hy.mono K.out.size))
  replace HR := Lib.hid (HR.out.below hy)
  replace HS := Lib.hid (HS.out.below hy)
  replace HD := Lib.hid (HD.out.below hy)
  replace HH := Lib.hid (HH.out.below hy HH.out.lt)
  replace NS := Lib.hid (NS.out.below hy NS.out.lt)
  have ND := Lib.hid hA
  clear hA hF hB hy
  go_wp2_with fail
  refine wp_region_still_tail 8 (by kernel_rfl) (by kernel_rfl) ?_
  change wpStill _ _ V6.drew (fun a' => wpList _ _ _ _ a' V6.drew) _ _
  have hy := (Below.refl V6.heap.size V6).drew
  replace K := Lib.hid (K.out.trans (hy.mono K.out.size))
  replace HR := Lib.hid (HR.out.below hy)
  replace HS := Lib.hid (HS.out.below hy)
  replace HD := Lib.hid (HD.out.below hy)
  replace HH := Lib.hid (HH.out.below hy HH.out.lt)
  replace NS := Lib.hid (NS.out.below hy NS.out.lt)
  replace ND := Lib.hid (ND.out.below hy ND.out.lt)
  clear hy
  generalize V6.drew = V7 at *
  have c6 := (K.out.cell (p := ⟨b, off + 6, none⟩) hb0).trans c6.out
  simp only [List.take_succ_cons, List.take_zero, List.drop_succ_cons, List.drop_zero]
  still_step
  still_call ((CL.out _ HR.out).mono fun e w' h => ⟨h.1, h.2.symm⟩)
  still_step
  still_step
  still_step
  refine wpStill_step (fun K hK => ?_)
  rw [if_pos (by rfl)]
  refine still_load 26 (.tmp 5) rfl _ rfl (.agg S) (run_blk_load (P := Try.prog) 26 (V3.heap.size) _ NS.out Try.underlying26 rfl ZS.out) (hK _ ?_)
  clear hK K
  refine wpStill_step (fun K hK => ?_)
  rw [if_pos (by rfl)]
  refine still_load 26 (.tmp 7) rfl _ rfl (.agg D) (run_blk_load (P := Try.prog) 26 (V5.heap.size) _ ND.out Try.underlying26 rfl ZD.out) (hK _ ?_)
  clear hK K
  refine wpStill_step (fun K hK => ?_)
  rw [if_pos (by rfl)]
  refine still_build2 100 _ rfl #[(0, .int .i64 ((40 + l : Nat) : Int)), (1, .int .u8 (p : Int)), (2, .agg S), (3, .agg D)] (by kernel_rfl) H HB.out (hK _ ?_)
  clear hK K
  refine wpStill_nil ?_
  simp only [Act.put, List.setIfInBounds_toArray, List.set_cons_zero, List.set_cons_succ]
  go_wp2_with (((with_reducible refine wpList_blk_store (op := ⟨none, .store 100 (.tmp 2) (.tmp 34), _, _, _, _⟩) ?sg4 100 (.tmp 2) (.tmp 34) ?so4 (w.heap.size) H ?sx4 ?sy4 HH.out YH.out ZH.out AH.out ?_); (case sg4 => rfl); (case so4 => rfl); (case sx4 => rfl); (case sy4 => rfl)))
  intro V8 hA hF hB
  replace K := Lib.hid (K.out.trans (hB _ (by omega)))
  -- HR: not brought over
  -- HS: not brought over
  -- HD: not brought over
  replace NS := Lib.hid ((hF _ (by omega)).trans NS.out)
  replace ND := Lib.hid ((hF _ (by omega)).trans ND.out)
  replace HH := Lib.hid hA
  clear hA hF hB
  go_wp2
  have hrun := run_blk_load (P := Try.prog) 100 w.heap.size _ HH.out Try.underlying100 rfl ZH.out
  exact bodyPost_ret (results_cell_tmp 2 100 3 w.heap.size _ Try.results52 rfl hrun) rfl ⟨rfl, K.out⟩
set_option maxRecDepth 100000 in
theorem read6_any (v : Value) (zs : List Nat) (w : World) (hr : Rd w v (nus .u8 zs)) (hb : ∀ c ∈ zs, c < 256) :
    Calls Try.prog 52 #[v] w fun e w' => e = .returned (.tuple #[.agg (hd6 zs), .int .i64 (f6 zs : Nat)]) ∧ Below w.heap.size w w' := by
  by_cases h : f6 zs = 0
  · have := read6_yes v zs w hr hb h
    rw [h]; exact this
  · have := read6_no v zs w hr hb h
    have e : hd6 zs = s0 := by unfold hd6; rw [if_neg h]
    rw [e]; exact this
end Go.Proofs.Ytopfbgoiehlhbaa

