/- Texts that the walks of this seat lean on, put together. -/
import Derived.Lib.QuietBelow
import Derived.LoopTactic
import Derived.Test.YthionipmohbnhaaTk
import Derived.Test.YthionipmohbnhaaM01
import Derived.Test.YthionipmohbnhaaM02
import Derived.Test.YthionipmohbnhaaM03
import Derived.Test.YthionipmohbnhaaM05
import Derived.Test.YthionipmohbnhaaM06
import Derived.Test.YthionipmohbnhaaM07
namespace Go.Proofs.Ythionipmohbnhaa
open Go.RowKit
set_option maxRecDepth 100000 in
theorem built_head (s l p : Nat) (S D : Array Value) (hS : S.size = 17) (hD : D.size = 17) : Try.prog.built 110 [(0, .int .i64 (s : Int)), (1, .int .i64 (l : Int)), (2, .int .u8 (p : Int)), (3, .agg S), (4, .agg D)] = some (hcells s l p S D) := by
  obtain ⟨x0, x1, x2, x3, x4, x5, x6, x7, x8, x9, x10, x11, x12, x13, x14, x15, x16, rfl⟩ := arr17 S hS
  obtain ⟨y0, y1, y2, y3, y4, y5, y6, y7, y8, y9, y10, y11, y12, y13, y14, y15, y16, rfl⟩ := arr17 D hD
  kernel_rfl
set_option maxRecDepth 100000 in
theorem i29 : (Try.prog.info? 110).map (·.size) = some 37 := by kernel_rfl
set_option maxRecDepth 100000 in
set_option maxHeartbeats 1000000 in
theorem read4_no (v : Value) (zs : List Nat) (w : World) (hr : Rd w v (nus .u8 zs)) (hb : ∀ c ∈ zs, c < 256) (h : ff zs ≠ 0) :
    Calls Try.prog 69 #[v] w fun e w' => e = .returned (.tuple #[.agg h0, .int .i64 (ff zs : Nat)]) ∧ Below w.heap.size w w' := by
  have B0 := (Below.refl w.heap.size w).alloc (Nat.le_refl _) (.cells h0 110)
  have HF := Lib.hid (fault4_any v zs _ (hr.below B0) hb)
  have hlt := ff_lt zs
  have HN := Lib.hid (Blk.new w 110 h0)
  have HB := Lib.hid B0
  obtain ⟨a, cap, rfl, -, -⟩ := rd_shape hr
  obtain ⟨r, hre⟩ : ∃ r, r = ff zs := ⟨_, rfl⟩
  rw [← hre] at HF h hlt ⊢
  generalize zs.length = n at *
  clear hr hb hre B0
  go_enter Try.func69, Try.ntmps69
  go_wp2_with fail
  refine HF.out.mono ?_; rintro e W1 ⟨rfl, hb⟩
  have HN1 := Lib.hid (HN.out.below hb HN.out.lt)
  have HB1 := Lib.hid (HB.out.trans (hb.mono HB.out.size))
  clear hb HN HB HF
  have g0 : ((r : Int) != 0) = true := by simp; omega
  clear h
  have Z := Lib.hid (i29.trans (congrArg some h0_size.symm))
  have A := Lib.hid h0_all
  go_wp2_with ((refine wpList_blk_store (op := ⟨none, .store 110 (.tmp 2) (.tmp 13), _, _, _, _⟩) rfl 110 (.tmp 2) (.tmp 13) rfl w.heap.size h0 (by rfl) (by rfl) HN1.out rfl Z.out A.out ?_))
  intro W2 hA hF hB
  have HB2 := Lib.hid (HB1.out.trans (hB _ (Nat.le_refl _)))
  have HA := Lib.hid hA
  clear hA hF hB
  go_wp2
  have hrun := run_blk_load (P := Try.prog) 110 w.heap.size _ HA.out Try.underlying110 rfl Z.out
  exact bodyPost_ret (results_cell_tmp 2 110 3 w.heap.size _ Try.results69 rfl hrun) rfl ⟨rfl, HB2.out⟩
set_option maxRecDepth 100000 in
set_option maxHeartbeats 1000000 in
theorem read4_yes (v : Value) (zs : List Nat) (w : World) (hr : Rd w v (nus .u8 zs)) (hb : ∀ c ∈ zs, c < 256) (h : ff zs = 0) :
    Calls Try.prog 69 #[v] w fun e w' => e = .returned (.tuple #[.agg (hd zs), .int .i64 0]) ∧ Below w.heap.size w w' := by
  obtain ⟨h20, -, -, -, -, -, -, -⟩ := ff_yes zs h
  have B0 := (Below.refl w.heap.size w).alloc (Nat.le_refl _) (.cells h0 110)
  have HF := Lib.hid (fault4_any v zs _ (hr.below B0) hb)
  rw [h] at HF
  have HN := Lib.hid (Blk.new w 110 h0)
  have HB := Lib.hid B0
  have HR := Lib.hid hr
  obtain ⟨a, cap, rfl, h1, h2⟩ := rd_shape hr
  obtain ⟨b, off, rfl, hc⟩ := hr.cells (by omega)
  obtain ⟨S, hS⟩ : ∃ S, S = a4 ((zs.drop 12).take 4) := ⟨_, rfl⟩
  obtain ⟨D, hD⟩ : ∃ D, D = a4 ((zs.drop 16).take 4) := ⟨_, rfl⟩
  have l1 : ((zs.drop 12).take 4).length = 4 := by simp; omega
  have l2 : ((zs.drop 16).take 4).length = 4 := by simp; omega
  have C1 := Lib.hid (fun w' (hw : Rd w' (.slice (some ⟨b, off + 12, none⟩) 4 (cap - 12)) (nus .u8 ((zs.drop 12).take 4))) => from_ok _ false ((zs.drop 12).take 4) w' hw (.inl ⟨l1, rfl⟩))
  have C2 := Lib.hid (fun w' (hw : Rd w' (.slice (some ⟨b, off + 16, none⟩) 4 (cap - 16)) (nus .u8 ((zs.drop 16).take 4))) => from_ok _ false ((zs.drop 16).take 4) w' hw (.inl ⟨l2, rfl⟩))
  have R1 := Lib.hid (hr.sub 12 4 (by omega))
  have R2 := Lib.hid (hr.sub 16 4 (by omega))
  rw [show adr false ((zs.drop 12).take 4 ++ List.replicate (16 - ((zs.drop 12).take 4).length) 0) = .agg S from by rw [hS]; rfl] at C1
  rw [show adr false ((zs.drop 16).take 4 ++ List.replicate (16 - ((zs.drop 16).take 4).length) 0) = .agg D from by rw [hD]; rfl] at C2
  have hsS := a4_size ((zs.drop 12).take 4) (by omega)
  have hsD := a4_size ((zs.drop 16).take 4) (by omega)
  have haS := a4_all ((zs.drop 12).take 4)
  have haD := a4_all ((zs.drop 16).take 4)
  have hh : hd zs = hcells (hs zs) (u2 zs 2) (zs.getD 9 0) S D := by unfold hd; rw [if_pos h, hS, hD]
  rw [← hS] at hsS haS
  rw [← hD] at hsD haD
  have c9 := hc 9 (by omega)
  unfold maxLen at h2
  clear hc l1 l2 hS hD B0
  generalize (zs.drop 12).take 4 = Sb at *
  generalize (zs.drop 16).take 4 = Db at *
  have HSS := Lib.hid (i24.trans (congrArg some hsS.symm))
  have HSD := Lib.hid (i24.trans (congrArg some hsD.symm))
  have HAS := Lib.hid haS
  have HAD := Lib.hid haD
  have HZS := Lib.hid (hsS.trans (cellsA_size false (List.replicate 16 0)).symm)
  have HZD := Lib.hid (hsD.trans (cellsA_size false (List.replicate 16 0)).symm)
  have CS := Lib.hid (fun W (hw : Rd W (.slice (some ⟨b, off, none⟩) zs.length cap) (nus .u8 zs)) => sizeOf_any _ zs W hw hb (by omega))
  have CW := Lib.hid (fun W (hw : Rd W (.slice (some ⟨b, off, none⟩) zs.length cap) (nus .u8 zs)) => word4_any _ 2 zs W hw hb (by omega))
  have hbuild := built_head (hs zs) (u2 zs 2) (zs.getD 9 0) S D hsS hsD
  have HBD := Lib.hid hbuild
  have hcs := hcells_size (hs zs) (u2 zs 2) (zs.getD 9 0) S D hsS hsD
  have hca := hcells_all (hs zs) (u2 zs 2) (zs.getD 9 0) S D haS haD
  rw [hh]
  have hl := u2_lt zs 2 hb
  have hs4 := hs_lt zs
  clear hbuild hh hb h hr
  generalize hs zs = s at *
  generalize u2 zs 2 = l at *
  generalize zs.getD 9 0 = p at *
  generalize zs.length = n at *
  obtain ⟨hc, hhc⟩ : ∃ x, x = hcells s l p S D := ⟨_, rfl⟩
  rw [← hhc] at HBD hcs hca ⊢
  have Z := Lib.hid (i29.trans (congrArg some hcs.symm))
  have Z0 := Lib.hid (hcs.trans h0_size.symm)
  have AC := Lib.hid hca
  have h9n : (9 : Int) < (n : Int) := by omega
  have hlw : IntKind.i64.wrap (l : Int) = (l : Int) := by rw [IntKind.wrap_i64]; omega
  clear hcs hca hhc hsS hsD haS haD
  go_enter Try.func69, Try.ntmps69
  go_wp2_with fail
  refine HF.out.mono ?_; rintro e W1 ⟨rfl, hb1⟩
  have HN1 := Lib.hid (HN.out.below hb1 HN.out.lt)
  have HB1 := Lib.hid (HB.out.trans (hb1.mono HB.out.size))
  clear hb1 HN HB HF
  go_wp2_with fail
  refine (C1.out _ (R1.out.below HB1.out)).mono ?_; rintro e W2 ⟨rfl, hb1⟩
  have K1 := Lib.hid (HB1.out.trans (hb1.mono HB1.out.size))
  have N1 := Lib.hid (HN1.out.below hb1 HN1.out.lt)
  clear hb1 HN1 HB1
  go_wp2_with ((refine wpList_blk_store (op := ⟨none, .store 25 (.tmp 5) (.tmp 19), _, _, _, _⟩) rfl 25 (.tmp 5) (.tmp 19) rfl W2.heap.size S (by rfl) (by rfl) (Blk.new W2 25 (cellsA false (List.replicate 16 0))) HZS.out HSS.out HAS.out ?_))
  intro W3 hA hF hB
  have K2 := Lib.hid ((K1.out.alloc K1.out.size (.cells (cellsA false (List.replicate 16 0)) 25)).trans (hB _ K1.out.size))
  have N2 := Lib.hid ((N1.out.alloc (.cells (cellsA false (List.replicate 16 0)) 25)).below (hB _ (Nat.le_refl _)) N1.out.lt)
  have A2 := Lib.hid hA
  clear hA hF hB K1 N1
  go_wp2_with fail
  refine (C2.out _ (R2.out.below K2.out)).mono ?_; rintro e W4 ⟨rfl, hb1⟩
  have K3 := Lib.hid (K2.out.trans (hb1.mono K2.out.size))
  have N3 := Lib.hid (N2.out.below hb1 N2.out.lt)
  have A3 := Lib.hid (A2.out.below hb1 A2.out.lt)
  clear hb1 K2 N2 A2 C1 C2 R1 R2
  go_wp2_with ((refine wpList_blk_store (op := ⟨none, .store 25 (.tmp 7) (.tmp 25), _, _, _, _⟩) rfl 25 (.tmp 7) (.tmp 25) rfl W4.heap.size D (by rfl) (by rfl) (Blk.new W4 25 (cellsA false (List.replicate 16 0))) HZD.out HSD.out HAD.out ?_))
  intro W5 hA hF hB
  have K4 := Lib.hid ((K3.out.alloc K3.out.size (.cells (cellsA false (List.replicate 16 0)) 25)).trans (hB _ K3.out.size))
  have N4 := Lib.hid ((N3.out.alloc (.cells (cellsA false (List.replicate 16 0)) 25)).below (hB _ (Nat.le_refl _)) N3.out.lt)
  have A4 := Lib.hid ((A3.out.alloc (.cells (cellsA false (List.replicate 16 0)) 25)).below (hB _ (Nat.le_refl _)) A3.out.lt)
  have D4 := Lib.hid hA
  clear hA hF hB K3 N3 A3
  go_wp2_with fail
  refine wp_region_still_tail 11 (by kernel_rfl) (by kernel_rfl) ?_
  change wpStill _ _ W5.drew (fun a' => wpList _ _ _ _ a' W5.drew) _ _
  have K5 := Lib.hid K4.out.drew
  have N5 := Lib.hid N4.out.drew
  have A5 := Lib.hid A4.out.drew
  have D5 := Lib.hid D4.out.drew
  generalize W5.drew = W6 at K5 N5 A5 D5 ⊢
  clear K4 N4 A4 D4
  have hb0 : b < w.heap.size := by
    rcases Nat.lt_or_ge b w.heap.size with h | h
    · exact h
    · simp [World.cell?, Array.getElem?_eq_none h] at c9
  have c9' := (K5.out.cell (p := ⟨b, off + 9, none⟩) hb0).trans c9
  have hA := run_blk_load (P := Try.prog) 25 W2.heap.size _ A5.out Try.underlying25 rfl HSS.out
  have hD := run_blk_load (P := Try.prog) 25 W4.heap.size _ D5.out Try.underlying25 rfl HSD.out
  have HA := Lib.hid hA
  have HD := Lib.hid hD
  clear hA hD
  simp only [List.take_succ_cons, List.take_zero, List.drop_succ_cons, List.drop_zero]
  still_step
  still_call ((CS.out _ (HR.out.below K5.out)).mono fun e w' h => ⟨h.1, h.2.symm⟩)
  still_step
  still_call ((CW.out _ (HR.out.below K5.out)).mono fun e w' h => ⟨h.1, h.2.symm⟩)
  still_step
  still_step
  still_step
  still_step
  refine wpStill_step (fun K hK => ?_)
  rw [if_pos (by rfl)]
  refine still_load 25 (.tmp 5) rfl _ rfl (.agg S) HA.out (hK _ ?_)
  clear hK K
  refine wpStill_step (fun K hK => ?_)
  rw [if_pos (by rfl)]
  refine still_load 25 (.tmp 7) rfl _ rfl (.agg D) HD.out (hK _ ?_)
  clear hK K
  refine wpStill_step (fun K hK => ?_)
  rw [if_pos (by rfl)]
  refine still_build2 110 _ rfl #[(0, .int .i64 (s : Int)), (1, .int .i64 (l : Int)), (2, .int .u8 (p : Int)), (3, .agg S), (4, .agg D)] (by kernel_rfl) hc HBD.out (hK _ ?_)
  clear hK K
  refine wpStill_nil ?_
  simp only [Act.put, tS1, tS2, tS3]
  go_wp2_with ((refine wpList_blk_store (op := ⟨none, .store 110 (.tmp 2) (.tmp 37), _, _, _, _⟩) rfl 110 (.tmp 2) (.tmp 37) rfl w.heap.size hc (by rfl) (by rfl) N5.out Z0.out Z.out AC.out ?_))
  intro W7 hA hF hB
  have K7 := Lib.hid (K5.out.trans (hB _ (Nat.le_refl _)))
  have HA := Lib.hid hA
  clear hA hF hB
  go_wp2
  have hrun := run_blk_load (P := Try.prog) 110 w.heap.size _ HA.out Try.underlying110 rfl Z.out
  exact bodyPost_ret (results_cell_tmp 2 110 3 w.heap.size _ Try.results69 rfl hrun) rfl ⟨rfl, K7.out⟩
set_option maxRecDepth 100000 in
theorem read4_any (v : Value) (zs : List Nat) (w : World) (hr : Rd w v (nus .u8 zs)) (hb : ∀ c ∈ zs, c < 256) :
    Calls Try.prog 69 #[v] w fun e w' => e = .returned (.tuple #[.agg (hd zs), .int .i64 (ff zs : Nat)]) ∧ Below w.heap.size w w' := by
  by_cases h : ff zs = 0
  · have := read4_yes v zs w hr hb h
    rw [h]; exact this
  · have := read4_no v zs w hr hb h
    have e : hd zs = h0 := by unfold hd; rw [if_neg h]
    rw [e]; exact this
end Go.Proofs.Ythionipmohbnhaa
namespace Go.Proofs.Ythionipmohbnhaa
open Go.RowKit Go.Shelf
attribute [local go_sem] Oper.semAt_some
set_option maxRecDepth 100000 in
set_option maxHeartbeats 400000 in
theorem upd_any (o f t : Nat) (w : World) (ho : o < 65536) (hf : f < 65536) (ht : t < 65536) :
    Calls Try.prog 74 #[.int .u16 (o : Int), .int .u16 (f : Int), .int .u16 (t : Int)] w fun e w' => e = .returned (.int .u16 (upd o f t : Nat)) ∧ w = w' := by
  have h1 := Lib.hid (upd_sum o f t ho hf ht)
  have h2 := Lib.hid (not16 (gr ((65535 - o) + (65535 - f) + t)) (by have := gr_le ((65535 - o) + (65535 - f) + t); omega))
  go_enter Try.func74, Try.ntmps74
  go_wp2_with fail
  rw [h1.out]
  refine (rnd_any _ _ (by omega)).mono ?_
  rintro e w' ⟨rfl, rfl⟩
  go_wp2
  go_ret
  exact ⟨ret_int h2.out, rfl⟩
set_option maxRecDepth 100000 in
set_option maxHeartbeats 2000000 in
theorem change_no (old : Nat) (vf vt : Value) (F T : List Nat) (w : World) (hf : Rd w vf (nus .u8 F)) (ht : Rd w vt (nus .u8 T)) (hno : F.length ≠ T.length ∨ F.length % 2 ≠ 0) :
    Calls Try.prog 59 #[.int .u16 (old : Int), vf, vt] w fun e w' => e = .returned (.int .u16 (old : Nat)) ∧ Below w.heap.size w w' := by
  obtain ⟨a1, c1, rfl, h1, h2, -⟩ := hf
  obtain ⟨a2, c2, rfl, h3, h4, -⟩ := ht
  rw [nus_length] at h1 h3 ⊢
  rw [nus_length]
  obtain ⟨m, hm⟩ : ∃ m, m = F.length := ⟨_, rfl⟩
  obtain ⟨n, hn⟩ : ∃ n, n = T.length := ⟨_, rfl⟩
  rw [← hm] at h1 hno ⊢
  rw [← hn] at h3 hno ⊢
  unfold maxLen at h2 h4
  clear hm hn
  go_enter Try.func59, Try.ntmps59
  have hb3 := ((Below.refl w.heap.size w).alloc (Nat.le_refl _) (.cells #[.int .u16 (old : Int)] 26)).alloc (by simp) (.cells #[.slice a2 n c2] 22)
  go_wp2
  all_goals
    go_ret
    exact ⟨rfl, hb3⟩
set_option maxRecDepth 100000 in
set_option maxHeartbeats 2000000 in
theorem change_yes (old : Nat) (vf vt : Value) (F T : List Nat) (w : World) (hf : Rd w vf (nus .u8 F)) (ht : Rd w vt (nus .u8 T)) (m : Nat) (hF : F.length = 2 * m) (hT : T.length = 2 * m)
    (hz : F.length ≤ 140737488351232) (hbF : ∀ c ∈ F, c < 256) (hbT : ∀ c ∈ T, c < 256) (ho : old < 65536) :
    Calls Try.prog 59 #[.int .u16 (old : Int), vf, vt] w fun e w' => e = .returned (.int .u16 (chg old F T m : Nat)) ∧ Below w.heap.size w w' := by
  have hrf := hf
  have hrt := ht
  obtain ⟨a1, c1, rfl, h1, h2, -⟩ := hf
  obtain ⟨a2, cq, rfl, h3, h4, -⟩ := ht
  rw [nus_length, hF] at h1 hrf ⊢
  rw [nus_length, hT] at h3 hrt ⊢
  unfold maxLen at h2 h4
  obtain ⟨n, hn⟩ : ∃ n, n = 2 * m := ⟨_, rfl⟩
  rw [← hn] at h1 h3 hrf hrt ⊢
  have hn2 : ((n : Int) % 2 != 0) = false := by rw [bne_eq_false_iff_eq]; omega
  have HN := Lib.hid hn
  clear hn
  refine (callsIn_wide (n := 3)).1 ?_
  refine callsIn_of_wp_marks Try.func59 rfl trivial ?_ rfl
  simp only [Try.ntmps59, List.size_toArray, List.length_cons, List.length_nil, Nat.reduceAdd, Nat.reduceSub, Array.replicate_succ, Array.replicate_zero, List.push_toArray, List.append_toArray, List.nil_append, List.cons_append]
  have hb3 := ((Below.refl w.heap.size w).alloc (Nat.le_refl _) (.cells #[.int .u16 (old : Int)] 26)).alloc (by simp) (.cells #[.slice a2 n cq] 22)
  have x1 := (Boxed.new w 26 (.int .u16 (old : Int))).alloc (.cells #[.slice a2 n cq] 22)
  have x2 := Boxed.new (w.alloc (.cells #[.int .u16 (old : Int)] 26)) 22 (.slice a2 n cq)
  simp only [World.size_alloc] at x2
  gi_wp2_with fail
  refine ⟨trivial, ?_⟩
  generalize hW : (w.alloc (.cells #[.int .u16 (old : Int)] 26)).alloc (.cells #[.slice a2 n cq] 22) = W at hb3 x1 x2 ⊢
  have hWs : W.heap.size = w.heap.size + 2 := by rw [← hW]; simp
  clear hW
  refine (callsIn_wide.2 (words_any (.slice a1 n c1) F W (hrf.below hb3) hz)).mono ?_
  rintro e W0 ⟨Be, g, rfl, h5, h6, h7, h8, h9⟩
  rw [even_same F (by omega)] at h7 h8
  gi_wp2_with fail
  have hW0 := h9.size
  have hgs : g < W0.heap.size := (Array.getElem?_eq_some_iff.1 h8).1
  have hBs := h7.lt
  have hwW0 : Below w.heap.size w W0 := hb3.trans (h9.mono (by omega))
  have g0 : ChgI w.heap.size (w.heap.size + 1) old F T (.slice a2 n cq) w [] W0 := ⟨(h9.block _ (by omega)).trans x1, (h9.block _ (by omega)).trans x2, by omega, hwW0⟩
  refine wpIn_rangeFunc_ownG rfl (by omega) (gf := 81) (lb := #[.pointer (some ⟨Be, 0, none⟩)]) rfl trivial (enters_of Try.func81 (by kernel_rfl) rfl)
    (it_stopsN 2 (by omega) Be g W.heap.size W0.heap.size m F hF hbF (by omega) h5 hBs h6 hgs W0 (Nat.le_refl _) h7 h8) mid_t (mid_b (Nat.le_refl _)) (Below.refl _ _) (fun _ => rfl)
    (ChgI w.heap.size (w.heap.size + 1) old F T (.slice a2 n cq) w)
    (fun _ _ _ => False)
    (ChgI.own _ _ _ _ _ _ _ _ (Nat.le_refl _) (by omega))
    (fun c s A B row hs hg hr => hs)
    g0
    (fun k => { tmps := #[.int .u16 (old : Int), .slice a1 n c1, .slice a2 n cq, .pointer (some ⟨w.heap.size, 0, none⟩), undef, .pointer (some ⟨w.heap.size + 1, 0, none⟩), .int .u16 0, .int .i64 (at2 k : Int), .int .u16 (be ((F.drop (at2 k)).take 2) : Int), undef, undef, .slice a1 n c1, .int .i64 n, .slice a2 n cq, .int .i64 n, .bool false, .bool false, .slice a1 n c1, .int .i64 n, .int .i64 ((n : Int) % 2), .bool false, .bool false, undef, .slice a1 n c1, .func (.func 81) #[] #[.pointer (some ⟨Be, 0, none⟩)], .int .i64 (at2 k : Int), .int .u16 (be ((F.drop (at2 k)).take 2) : Int), undef, undef, undef, undef, undef, undef, undef, undef, undef, undef, undef], defers := [] }) ?assign ?body ?done ?stop
  case assign =>
    intro l x W' K hK
    gi_wp2
    exact hK
  case body =>
    rintro l pre x W' ⟨bx, by2, hsz, hB⟩ hlt
    have c1 := bx.cell
    have cf := bx.frozen
    have c2 := by2.cell
    have hrt' := hrt.below hB
    have hle := chgL_le old F T (by omega) pre
    have hsn := Lib.hid (chgL_snoc old F T pre x)
    have hw1 := w2_lt F x hbF
    have hw2 := w2_lt T x hbT
    rw [show be ((F.drop (at2 x)).take 2) = w2 F x from be_w2 F m x hF]
    have HRT := Lib.hid hrt'
    have HBT := Lib.hid hbT
    have HT := Lib.hid hT
    have HBE := Lib.hid (be_w2 T m x hT)
    have hat : at2 x = 2 * x := rfl
    obtain ⟨o, ho2⟩ : ∃ o, o = chgL old F T pre := ⟨_, rfl⟩
    obtain ⟨p, hp⟩ : ∃ p, p = w2 F x := ⟨_, rfl⟩
    obtain ⟨q, hq⟩ : ∃ q, q = w2 T x := ⟨_, rfl⟩
    rw [← ho2] at bx c1 hle hsn
    rw [← hp] at hw1 hsn ⊢
    rw [← hq] at hw2 hsn HBE
    clear hrf hF hT hz hbF hbT ho hrt hb3 x1 x2 h5 h6 h7 h8 h9 hgs hBs hwW0 g0 hrt' ho2 hp hq hn2 HN h1
    obtain ⟨v, b, hv, hget⟩ : ∃ v b, v = q ∧ Calls Try.prog 50 #[Value.slice a2 n cq, Value.int IntKind.i64 (at2 x : Int)] W' fun e w' => e = .returned (.tuple #[.int .u16 (v : Int), .bool b]) ∧ W' = w' := by
      by_cases hx : 2 * x + 2 ≤ T.length
      · exact ⟨_, true, HBE.out, get16_yes _ (2 * x) T W' HRT.out HBT.out hx⟩
      · have hq0 : q = 0 := by
          rw [← HBE.out, List.drop_eq_nil_of_le (by have := HT.out; omega)]; rfl
        have hn : T.length = n := by
          obtain ⟨a, c, he, _⟩ := HRT.out
          simp only [Value.slice.injEq, nus_length] at he
          exact he.2.1.symm
        refine ⟨0, false, hq0.symm, get16_no a2 n cq (at2 x : Int) W' (by unfold maxLen; omega) (.inr ?_)⟩
        rw [hat]
        omega
    subst hv
    have HG := Lib.hid hget
    clear hget hat HBE
    gi_wp2_with fail
    refine ⟨trivial, ?_⟩
    refine (CallsIn.inRound l (callsIn_wide.2 HG.out)).mono ?_
    rintro e w' ⟨rfl, rfl⟩
    gi_wp2_with fail
    refine ⟨trivial, ?_⟩
    refine (CallsIn.inRound l (callsIn_wide.2 (upd_any o p v _ (by omega) hw1 hw2))).mono ?_
    rintro e w' ⟨rfl, rfl⟩
    gi_wp2
    refine ⟨KeepsOthers.from (KeepsOthers.setCell _ _ _) _, mid_set _ _ _ (by omega), ?_, by2.other (by omega) _, by simpa using hsz, hB.setCell (Nat.le_refl _) _⟩
    refine (bx.set _).trans ?_
    rw [hsn.out]
  case done =>
    rintro D ys Wn hD hys ⟨bx, by2, hsz, hB⟩ hK
    rw [hys, chgL_upto] at bx
    have c1 := bx.cell
    clear hrf hF hT hz hbF hbT ho hrt hb3 x1 x2 h5 h6 h7 h8 h9 hgs hBs hwW0 g0 hn2 HN
    gi_wp2
    refine ⟨by simp, .inl ⟨_, _, rfl, run_takeDeferred hK, ?_⟩⟩
    exact ⟨.int .u16 ((chg old F T m : Nat) : Int), by simp [results, Try.f59, go_sem], rfl, hB.trans (belowK_b (w := w) (Nat.le_refl _) _ D _ _ (by omega) hK rfl rfl)⟩
  case stop => 
    rintro D c l Wn hD hk h
    exact h.elim
set_option maxRecDepth 100000 in
theorem change_any (old : Nat) (vf vt : Value) (F T : List Nat) (w : World) (hf : Rd w vf (nus .u8 F)) (ht : Rd w vt (nus .u8 T))
    (hz : F.length ≤ 140737488351232) (hbF : ∀ c ∈ F, c < 256) (hbT : ∀ c ∈ T, c < 256) (ho : old < 65536) :
    Calls Try.prog 59 #[.int .u16 (old : Int), vf, vt] w fun e w' => e = .returned (.int .u16 (chA old F T : Nat)) ∧ Below w.heap.size w w' := by
  by_cases h : F.length ≠ T.length ∨ F.length % 2 ≠ 0
  · rw [chA_no old F T h]; exact change_no old vf vt F T w hf ht h
  · rw [chA_yes old F T (F.length / 2) (by omega) (by omega)]
    exact change_yes old vf vt F T w hf ht (F.length / 2) (by omega) (by omega) hz hbF hbT ho
set_option maxRecDepth 100000 in
set_option maxHeartbeats 400000 in
theorem sumAt_any (p : Nat) (w : World) : Calls Try.prog 63 #[.int .u8 (p : Int)] w fun e w' => e = .returned (.int .i64 (sAt p : Nat)) ∧ w = w' := by
  unfold sAt
  by_cases h : p = 17
  · subst h
    go_enter Try.func63, Try.ntmps63
    go_wp2
    go_ret
    exact ⟨rfl, rfl⟩
  · have g : ((p : Int) == 17) = false := by rw [beq_eq_false_iff_ne]; omega
    rw [if_neg h]
    clear h
    go_enter Try.func63, Try.ntmps63
    go_wp2
    go_ret
    exact ⟨rfl, rfl⟩
end Go.Proofs.Ythionipmohbnhaa
namespace Go.Proofs.Ythionipmohbnhaa
open Go.RowKit
set_option maxRecDepth 100000 in
set_option maxHeartbeats 2000000 in
theorem dest4_yes (v : Value) (zs : List Nat) (bs : List Nat) (w : World) (hr : Rd w v (nus .u8 zs)) (hb : ∀ c ∈ zs, c < 256) (h : ff zs = 0) (hz : zs.length ≤ 140737488351232) (hl : bs.length = 16) (hbb : ∀ c ∈ bs, c < 256) :
    Calls Try.prog 43 #[v, adr false bs] w fun e w' => ∃ x, e = .returned x ∧ w'.ownsRow w.heap.size 5 1 x zs.length (nus .u8 (dst4 zs (bs.take 4))) ∧ Below w.heap.size w w' := by
  obtain ⟨h20, -, -, -, -, -, -, -⟩ := ff_yes zs h
  obtain ⟨a, cap, rfl, hlc, hlm⟩ := rd_shape hr
  obtain ⟨b, off, rfl, hce⟩ := hr.cells (by omega)
  have hHl : (bs.take 4).length = 4 := by simp; omega
  have hHb : ∀ c ∈ bs.take 4, c < 256 := fun c hc => hbb c (List.mem_of_mem_take hc)
  have CB := Lib.hid (fun w' => bytes_own false bs hl w')
  unfold bytesA at CB
  rw [if_neg (by decide), hHl] at CB
  unfold adr at CB ⊢
  obtain ⟨c, hc⟩ : ∃ c, c = cellsA false bs := ⟨_, rfl⟩
  have hc0 : c[0]? = some (.bool false) := by rw [hc]; exact cellsA_head _ _
  have hcz : c.size = 17 := by rw [hc, cellsA_size, hl]
  rw [← hc] at CB ⊢
  have I := Lib.hid (i24.trans (congrArg some hcz.symm))
  have B0 := (Below.refl w.heap.size w).alloc (Nat.le_refl _) (.cells c 25)
  have HF := Lib.hid (fault4_any _ zs _ (hr.below B0) hb)
  rw [h] at HF
  have HN := Lib.hid (Blk.new w 25 c)
  have HB := Lib.hid B0
  have HR := Lib.hid hr
  have HS := Lib.hid (hr.sub 16 4 (by omega))
  have CC := Lib.hid (fun w' h => clone_any ⟨b, off, none⟩ cap zs w' h (by omega) (by omega))
  have CW := Lib.hid (fun w' (h : Rd w' (.slice (some ⟨b, off, none⟩) zs.length cap) (nus .u8 zs)) => (word4_any _ 10 zs w' h hb (by omega)).mono fun e w1 hh => show e = .returned (.int .u16 (u2 zs 10 : Nat)) ∧ Below w'.heap.size w' w1 from ⟨hh.1, hh.2 ▸ Below.refl _ _⟩)
  have CG := Lib.hid (fun w' z (h1 : Rd w' (.slice (some ⟨b, off + 16, none⟩) 4 (cap - 16)) (nus .u8 ((zs.drop 16).take 4))) (h2 : Rd w' z (nus .u8 (bs.take 4))) => change_any (u2 zs 10) _ z _ _ w' h1 h2 (by simp; omega) (fun c hc => hb c (List.mem_of_mem_drop (List.mem_of_mem_take hc))) hHb (u2_lt zs 10 hb))
  have hV : chA (u2 zs 10) ((zs.drop 16).take 4) (bs.take 4) < 65536 := chA_lt _ _ _ (u2_lt zs 10 hb)
  have HD : Hid (dst4 zs (bs.take 4) = ov (putRow zs 10 2 (chA (u2 zs 10) ((zs.drop 16).take 4) (bs.take 4)) 2) (bs.take 4) 16) := by
    show _ = _
    rw [put_ov]; rfl
  have HHl := Lib.hid hHl
  have HZL : Hid ((putRow zs 10 2 (chA (u2 zs 10) ((zs.drop 16).take 4) (bs.take 4)) 2).length = zs.length) := putRow_length zs 10 2 _ 2 (by omega) (Nat.le_refl _)
  generalize dst4 zs (bs.take 4) = RES at *
  generalize chA (u2 zs 10) ((zs.drop 16).take 4) (bs.take 4) = V at *
  generalize (zs.drop 16).take 4 = OD at *
  generalize bs.take 4 = T at *
  generalize u2 zs 10 = O at *
  have hnm : zs.length ≤ maxLen := by omega
  generalize zs.length = n at *
  unfold maxLen at hlm
  clear hr hb hc B0 hcz hce h hl hbb hHl hHb
  go_enter Try.func43, Try.ntmps43
  go_wp2_with fail
  refine HF.out.mono ?_; rintro e W1 ⟨rfl, hb⟩
  have HN1 := Lib.hid (HN.out.below hb HN.out.lt)
  have HB1 := Lib.hid (HB.out.trans (hb.mono HB.out.size))
  have HR1 := Lib.hid (HR.out.below HB1.out)
  have hc1 := HN1.out.cell 0
  rw [hc0] at hc1
  clear hb HN HB HF hc0
  go_wp2_with fail
  refine wp_region_held (S := (fun w' : World => Below W1.heap.size W1 w')) (by kernel_rfl) ?_
  change wpAnyH _ _ _ _ _ _ _ _ W1.drew
  have hE0 : Below W1.heap.size W1 W1.drew := (Below.refl _ _).drew
  generalize W1.drew = Y0 at hE0  ⊢
  have E0 := Lib.hid hE0
  clear hE0 
  refine tkA 0 (?_) ?_ E0.out ?_
  rotate_left
  · (intro w1 hS; go_simp; try with_reducible rfl)
  simp only [Act.put, tS1, tS2, tS3]
  refine tkA 2 (.agg c) ?_ E0.out ?_
  · (intro w1 hS; have hW := hS; exact exec_load 25 (.tmp 3) rfl _ rfl _ (run_blk_load (P := Try.prog) 25 w.heap.size _ (HN1.out.below hW HN1.out.lt) Try.underlying25 rfl I.out))
  simp only [Act.put, tS1, tS2, tS3]
  refine tkO 1 (fun K hK => ?_)
  go_simp
  refine (CC.out Y0 (HR1.out.below E0.out)).mono ?_
  rintro e Y1 ⟨x, rfl, hx, hy⟩
  have E1 := Lib.hid (E0.out.trans (hy.mono E0.out.size))
  have C1 := Lib.hid E1.out
  have O1 := Lib.hid (own_low (Nat.le_trans HB1.out.size E0.out.size) hx)
  obtain ⟨g, cap2, rfl, hc2, hcm2, hgl, hgu⟩ := own_at O1.out (by omega)
  clear hx
  clear hy E0
  refine hK.out _ _ C1.out (fun _ => ?_)
  clear hK K
  refine wpAnyH_mono (S' := (fun w' : World => Below Y1.heap.size Y1 w')) (fun w1 h => C1.out.trans (h.mono C1.out.size)) _ _ _ _ ?_
  clear C1
  try simp only [Act.put, tS1, tS2, tS3]
  refine tkO 3 (fun K hK => ?_)
  go_simp
  refine (CB.out Y1).mono ?_
  rintro e Y2 ⟨z, rfl, hz, hy⟩
  have E2 := Lib.hid (E1.out.trans (hy.mono E1.out.size))
  have C2 := Lib.hid hy
  have O2 := Lib.hid (row_under O1.out hy)
  have Z2 := Lib.hid hz
  clear hz O1
  clear hy E1
  refine hK.out _ _ C2.out (fun _ => ?_)
  clear hK K
  refine wpAnyH_mono (S' := (fun w' : World => Below Y2.heap.size Y2 w')) (fun w1 h => C2.out.trans (h.mono C2.out.size)) _ _ _ _ ?_
  clear C2
  try simp only [Act.put, tS1, tS2, tS3]
  refine tkA 4 (?_) ?_ (Below.refl _ _) ?_
  rotate_left
  · (intro w1 hS; go_simp; try with_reducible rfl)
  simp only [Act.put, tS1, tS2, tS3]
  refine tkA 5 (?_) ?_ (Below.refl _ _) ?_
  rotate_left
  · (intro w1 hS; go_simp; try with_reducible rfl)
  simp only [Act.put, tS1, tS2, tS3]
  refine wpAnyH_done (by kernel_rfl) ?_ _
  have K2 := Lib.hid (HB1.out.trans (E2.out.mono HB1.out.size))
  clear CC CB HN1 HR1 hc1 HB1 E2 I
  go_wp2_with fail
  refine wp_region_held (S := (fun w' : World => Below w.heap.size w w')) (by kernel_rfl) ?_
  change wpAnyH _ _ _ _ _ _ _ _ Y2.drew
  have hE0 : Below w.heap.size w Y2.drew := K2.out.drew
  have qO3 := row_under O2.out (show Below Y2.heap.size Y2 Y2.drew from (Below.refl _ _).drew)
  have qZ3 := row_under Z2.out (show Below Y2.heap.size Y2 Y2.drew from (Below.refl _ _).drew)
  generalize Y2.drew = X0 at hE0 qO3 qZ3 ⊢
  have E0 := Lib.hid hE0
  have O3 := Lib.hid qO3
  have Z3 := Lib.hid qZ3
  clear hE0 qO3 qZ3
  refine tkA 0 (?_) ?_ E0.out ?_
  rotate_left
  · (intro w1 hS; go_simp; try with_reducible rfl)
  simp only [Act.put, tS1, tS2, tS3]
  refine tkA 1 (?_) ?_ E0.out ?_
  rotate_left
  · (intro w1 hS; go_simp; try with_reducible rfl)
  simp only [Act.put, tS1, tS2, tS3]
  refine tkA 3 (?_) ?_ E0.out ?_
  rotate_left
  · (intro w1 hS; go_simp; try with_reducible rfl)
  simp only [Act.put, tS1, tS2, tS3]
  refine tkA 4 (?_) ?_ E0.out ?_
  rotate_left
  · (intro w1 hS; have hW := hS; have q : (20 : Int) ≤ (cap : Int) := (by omega); have q2 : (cap = 16) = False := (eq_false (by omega)); clear hW hS; go_simp; try with_reducible rfl)
  simp only [Act.put, tS1, tS2, tS3]
  refine tkA 5 (?_) ?_ E0.out ?_
  rotate_left
  · (intro w1 hS; go_simp; try with_reducible rfl)
  simp only [Act.put, tS1, tS2, tS3]
  refine tkO 2 (fun K hK => ?_)
  go_simp
  refine (CW.out X0 (HR.out.below E0.out)).mono ?_
  rintro e X1 ⟨rfl, hy⟩
  have E1 := Lib.hid (E0.out.trans (hy.mono E0.out.size))
  have C1 := Lib.hid E1.out
  have O4 := Lib.hid (row_under O3.out hy)
  have Z4 := Lib.hid (row_under Z3.out hy)
  clear O3 Z3
  clear hy E0
  refine hK.out _ _ C1.out (fun _ => ?_)
  clear hK K
  try simp only [Act.put, tS1, tS2, tS3]
  clear C1
  refine tkO 6 (fun K hK => ?_)
  go_simp
  refine (CG.out X1 z (HS.out.below E1.out) (Rd.own Z4.out)).mono ?_
  rintro e X2 ⟨rfl, hy⟩
  have E2 := Lib.hid (E1.out.trans (hy.mono E1.out.size))
  have C2 := Lib.hid E2.out
  have O5 := Lib.hid (row_under O4.out hy)
  have Z5 := Lib.hid (row_under Z4.out hy)
  clear O4 Z4
  clear hy E1
  refine hK.out _ _ C2.out (fun _ => ?_)
  clear hK K
  try simp only [Act.put, tS1, tS2, tS3]
  clear C2
  refine tkO 7 (fun K hK => ?_)
  go_simp
  refine (put16_yes g n cap2 w.heap.size 10 V zs X2 O5.out hnm (by omega) hV).mono ?_
  rintro e X3 ⟨rfl, o6, g6⟩
  have O6 := Lib.hid o6
  have b6 := E2.out.grown g6 E2.out.size (fun k e => by cases e; exact hgl)
  have K6 := Lib.hid b6
  have Z6 := Lib.hid (own_apart Z5.out g6 hgu)
  refine hK.out _ _ K6.out (fun _ => ?_)
  clear hK K o6 g6 b6 E2 O5 Z5
  try simp only [Act.put, tS1, tS2, tS3]
  refine wpAnyH_done (by kernel_rfl) ?_ _
  obtain ⟨gz, cz, rfl, -, -, -, -⟩ := own_at Z6.out (by omega)
  have q2 : (cap2 = 16) = False := eq_false (by omega)
  go_wp2_with ((with_reducible refine copy_into ?cg (.tmp 27) (.tmp 28) 22 22 ?co 5 Try.underlying22 Try.size5 g 16 n cap2 w.heap.size (n - 16) (cap2 - 16) 5 .u8 (putRow zs 10 2 V 2) T (some ⟨gz, 0, none⟩) 4 cz ?cd ?cs O6.out (Rd.own Z6.out) ?cf ?ce ?_); (case cg => rfl); (case co => rfl); (case cd => rfl); (case cs => rfl); (case cf => omega); (case ce => omega))
  intro w7 o7 g7
  have K7 := Lib.hid (K6.out.grown g7 K6.out.size (fun k e => by cases e; exact hgl))
  clear g7 K6 O6 Z6
  go_wp2
  go_ret
  exact ⟨_, rfl, by rw [HD.out]; exact o7.out, K7.out⟩
end Go.Proofs.Ythionipmohbnhaa
namespace Go.Proofs.Ythionipmohbnhaa
open Go.RowKit
set_option maxRecDepth 100000 in
set_option maxHeartbeats 400000 in
theorem plen_any (v : Value) (zs : List Nat) (w : World) (hr : Rd w v (nus .u8 zs)) (hb : ∀ c ∈ zs, c < 256) (hk : 40 ≤ zs.length) :
    Calls Try.prog 70 #[v] w fun e w' => e = .returned (.int .i64 ((40 + u2 zs 4 : Nat) : Int)) ∧ w = w' := by
  have H := Lib.hid (get16_yes v 4 zs w hr hb (by omega))
  have HE := Lib.hid (be_u2 zs 4 (by omega))
  have hl := u2_lt zs 4 hb
  generalize u2 zs 4 = l at *
  have HG := Lib.hid (show ((40 + l : Nat) : Int) = 40 + (l : Int) by omega)
  clear hr hb hk
  go_enter Try.func70, Try.ntmps70
  go_wp2_with fail
  refine H.out.mono ?_; rintro e w' ⟨rfl, rfl⟩
  rw [HE.out]
  go_wp2
  go_ret
  exact ⟨ret_int (by rw [HG.out]), rfl⟩
set_option maxRecDepth 100000 in
set_option maxHeartbeats 1000000 in
theorem fault6_any (v : Value) (zs : List Nat) (w : World) (hr : Rd w v (nus .u8 zs)) (hb : ∀ c ∈ zs, c < 256) :
    Calls Try.prog 54 #[v] w fun e w' => e = .returned (.int .i64 (f6 zs : Nat)) ∧ w = w' := by
  obtain ⟨a, cap, rfl, h1, h2⟩ := rd_shape hr
  by_cases h40 : zs.length < 40
  · have hf : f6 zs = 1 := by unfold f6; rw [if_pos h40]
    rw [hf]
    unfold maxLen at h2
    clear hr hb hf
    go_enter Try.func54, Try.ntmps54
    go_wp2
    go_ret
    exact ⟨rfl, rfl⟩
  obtain ⟨b, off, rfl, hc⟩ := hr.cells (by omega)
  have c0 := hc 0 (by omega)
  have c6 := hc 6 (by omega)
  have PL := Lib.hid (plen_any _ zs w hr hb (by omega))
  have hx := getD_lt zs hb 0
  have hp := getD_lt zs hb 6
  have hl := u2_lt zs 4 hb
  unfold maxLen at h2
  rw [Nat.add_zero] at c0
  clear hc hr hb
  obtain ⟨F, hFe⟩ : ∃ F, F = f6 zs := ⟨_, rfl⟩
  rw [← hFe]
  unfold f6 at hFe
  rw [if_neg h40] at hFe
  have HF := Lib.hid hFe
  clear hFe
  generalize zs.getD 0 0 = x at *
  generalize zs.getD 6 0 = p at *
  generalize u2 zs 4 = l at *
  generalize zs.length = n at *
  by_cases h6 : x / 16 = 6
  case neg =>
    have hf : F = 3 := by rw [HF.out, if_pos h6]
    have g4 : ((x : Int) / 16 != 6) = true := by rw [bne_iff_ne]; omega
    subst hf
    clear h6
    go_enter Try.func54, Try.ntmps54
    go_wp2
    go_ret
    exact ⟨rfl, rfl⟩
  have g4 : ((x : Int) / 16 != 6) = false := by rw [bne_eq_false_iff_eq]; omega
  rw [if_neg (by omega)] at HF
  clear h6
  go_enter Try.func54, Try.ntmps54
  go_wp2_with fail
  refine PL.out.mono ?_; rintro e w' ⟨rfl, rfl⟩
  clear PL
  by_cases hnl : n < 40 + l
  · have hf : F = 1 := by rw [HF.out, if_pos hnl]
    have gl : decide (n < 40 + l) = true := decide_eq_true hnl
    subst hf
    go_wp2
    go_ret
    exact ⟨rfl, rfl⟩
  have gl : decide (n < 40 + l) = false := decide_eq_false hnl
  rw [if_neg hnl] at HF
  by_cases hp44 : p = 44
  · have hf : F = 5 := by rw [HF.out, if_pos hp44]
    subst hf hp44
    go_wp2
    go_ret
    exact ⟨rfl, rfl⟩
  rw [if_neg hp44] at HF
  by_cases hp6 : p = 6
  · have hf : F = 0 := by rw [HF.out, if_neg (by omega)]
    subst hf hp6
    go_wp2
    go_ret
    exact ⟨rfl, rfl⟩
  by_cases hp17 : p = 17
  · have hf : F = 0 := by rw [HF.out, if_neg (by omega)]
    subst hf hp17
    go_wp2
    go_ret
    exact ⟨rfl, rfl⟩
  have hf : F = 6 := by rw [HF.out, if_pos ⟨hp6, hp17⟩]
  have g6 : ((p : Int) == 6) = false := by rw [beq_eq_false_iff_ne]; omega
  have g17 : ((p : Int) == 17) = false := by rw [beq_eq_false_iff_ne]; omega
  have g44 : ((p : Int) == 44) = false := by rw [beq_eq_false_iff_ne]; omega
  subst hf
  clear hp6 hp17 hp44
  go_wp2
  go_ret
  exact ⟨rfl, rfl⟩
end Go.Proofs.Ythionipmohbnhaa
namespace Go.Proofs.Ythionipmohbnhaa
open Go.RowKit
set_option maxRecDepth 100000 in
theorem i100 : (Try.prog.info? 107).map (·.size) = some 36 := by kernel_rfl
set_option maxRecDepth 100000 in
theorem built_s (l p : Nat) (S D : Array Value) (hS : S.size = 17) (hD : D.size = 17) : Try.prog.built 107 [(0, .int .i64 (l : Int)), (1, .int .u8 (p : Int)), (2, .agg S), (3, .agg D)] = some (scells l p S D) := by
  obtain ⟨x0, x1, x2, x3, x4, x5, x6, x7, x8, x9, x10, x11, x12, x13, x14, x15, x16, rfl⟩ := arr17 S hS
  obtain ⟨y0, y1, y2, y3, y4, y5, y6, y7, y8, y9, y10, y11, y12, y13, y14, y15, y16, rfl⟩ := arr17 D hD
  kernel_rfl
set_option maxRecDepth 100000 in
set_option maxHeartbeats 1000000 in
theorem read6_no (v : Value) (zs : List Nat) (w : World) (hr : Rd w v (nus .u8 zs)) (hb : ∀ c ∈ zs, c < 256) (h : f6 zs ≠ 0) :
    Calls Try.prog 68 #[v] w fun e w' => e = .returned (.tuple #[.agg s0, .int .i64 (f6 zs : Nat)]) ∧ Below w.heap.size w w' := by
  have CF := Lib.hid (fun W (h : Rd W v (nus .u8 zs)) => fault6_any v zs W h hb)
  have hlt := f6_lt zs
  have K := Lib.hid (Below.refl w.heap.size w)
  have HR := Lib.hid hr
  obtain ⟨a, cap, rfl, -, -⟩ := rd_shape hr
  have Y0 : Hid (s0.size = Array.size (Zc36 : Array Value)) := s0_size
  have Z0 := Lib.hid (i100.trans (congrArg some s0_size.symm))
  have A0 := Lib.hid s0_all
  generalize f6 zs = r at *
  generalize zs.length = n at *
  have g0 : ((r : Int) != 0) = true := by simp; omega
  clear hr hb h
  go_enter Try.func68, Try.ntmps68
  have hal := (Below.refl w.heap.size w).alloc (Nat.le_refl _) (.cells Zc36 107)
  replace K := Lib.hid (K.out.trans (hal.mono K.out.size))
  replace HR := Lib.hid (HR.out.below hal)
  have HH := Lib.hid (Blk.new w 107 Zc36)
  clear hal
  go_wp2_with fail
  generalize (w.alloc (.cells Zc36 107)) = V1 at *
  refine (CF.out _ HR.out).mono ?_
  rintro e V2 ⟨rfl, rfl⟩
  go_wp2_with (((with_reducible refine wpList_blk_store (op := ⟨none, .store 107 (.tmp 2) (.tmp 13), _, _, _, _⟩) ?sg1 107 (.tmp 2) (.tmp 13) ?so1 (w.heap.size) s0 ?sx1 ?sy1 HH.out Y0.out Z0.out A0.out ?_); (case sg1 => rfl); (case so1 => rfl); (case sx1 => rfl); (case sy1 => rfl)))
  intro V3 hA hF hB
  replace K := Lib.hid (K.out.trans (hB _ (by omega)))
  replace HH := Lib.hid hA
  clear hA hF hB
  go_wp2
  have hrun := run_blk_load (P := Try.prog) 107 w.heap.size _ HH.out Try.underlying107 rfl Z0.out
  exact bodyPost_ret (results_cell_tmp 2 107 3 w.heap.size _ Try.results68 rfl hrun) rfl ⟨rfl, K.out⟩
set_option maxRecDepth 100000 in
set_option maxHeartbeats 1000000 in
theorem read6_yes (v : Value) (zs : List Nat) (w : World) (hr : Rd w v (nus .u8 zs)) (hb : ∀ c ∈ zs, c < 256) (h : f6 zs = 0) :
    Calls Try.prog 68 #[v] w fun e w' => e = .returned (.tuple #[.agg (hd6 zs), .int .i64 0]) ∧ Below w.heap.size w w' := by
  obtain ⟨h40, -, -, -⟩ := f6_yes zs h
  have CF := Lib.hid (fun W (h : Rd W v (nus .u8 zs)) => fault6_any v zs W h hb)
  rw [h] at CF
  have CL := Lib.hid (fun W (h : Rd W v (nus .u8 zs)) => plen_any v zs W h hb h40)
  have K := Lib.hid (Below.refl w.heap.size w)
  have HR := Lib.hid hr
  obtain ⟨a, cap, rfl, hlc, hlm⟩ := rd_shape hr
  obtain ⟨b, off, rfl, hce⟩ := hr.cells (by omega)
  have C6 := hce 6 (by omega)
  have hb0 := rd_cell C6
  have c6 := Lib.hid C6
  have HS := Lib.hid (hr.sub 8 16 (by omega))
  have HD := Lib.hid (hr.sub 24 16 (by omega))
  have l1 : ((zs.drop 8).take 16).length = 16 := by simp; omega
  have l2 : ((zs.drop 24).take 16).length = 16 := by simp; omega
  have C1 := Lib.hid (fun w' z (hw : Rd w' z (nus .u8 ((zs.drop 8).take 16))) => from_ok z true _ w' hw (.inr ⟨l1, rfl⟩))
  have C2 := Lib.hid (fun w' z (hw : Rd w' z (nus .u8 ((zs.drop 24).take 16))) => from_ok z true _ w' hw (.inr ⟨l2, rfl⟩))
  rw [l1, show (zs.drop 8).take 16 ++ List.replicate (16 - 16) 0 = (zs.drop 8).take 16 from by simp, show adr true ((zs.drop 8).take 16) = .agg (srcA zs) from rfl] at C1
  rw [l2, show (zs.drop 24).take 16 ++ List.replicate (16 - 16) 0 = (zs.drop 24).take 16 from by simp, show adr true ((zs.drop 24).take 16) = .agg (dstA zs) from rfl] at C2
  have hh : hd6 zs = scells (40 + u2 zs 4) (zs.getD 6 0) (srcA zs) (dstA zs) := by unfold hd6; rw [if_pos h]
  obtain ⟨sS, sD⟩ := ad_size zs h40
  have aS : (srcA zs).all (·.oneCell') = true := cellsA_all _ _
  have aD : (dstA zs).all (·.oneCell') = true := cellsA_all _ _
  rw [hh]
  generalize srcA zs = S at *
  generalize dstA zs = D at *
  generalize u2 zs 4 = l at *
  generalize zs.getD 6 0 = p at *
  have hbd := built_s (40 + l) p S D sS sD
  have hs := scells_size (40 + l) p S D sS sD
  have ha := scells_all (40 + l) p S D aS aD
  generalize scells (40 + l) p S D = H at *
  have HB := Lib.hid hbd
  have YS : Hid (S.size = Array.size (Zc17 : Array Value)) := sS
  have ZS := Lib.hid (i24.trans (congrArg some sS.symm))
  have AS := Lib.hid aS
  have YD : Hid (D.size = Array.size (Zc17 : Array Value)) := sD
  have ZD := Lib.hid (i24.trans (congrArg some sD.symm))
  have AD := Lib.hid aD
  have YH : Hid (H.size = Array.size (Zc36 : Array Value)) := hs
  have ZH := Lib.hid (i100.trans (congrArg some hs.symm))
  have AH := Lib.hid ha
  unfold maxLen at hlm
  have h6n : (6 : Int) < (zs.length : Int) := by omega
  clear hr hb h hce sS sD aS aD hs ha hbd l1 l2 hh C6
  generalize zs.length = n at *
  go_enter Try.func68, Try.ntmps68
  have hal := (Below.refl w.heap.size w).alloc (Nat.le_refl _) (.cells Zc36 107)
  replace K := Lib.hid (K.out.trans (hal.mono K.out.size))
  replace HR := Lib.hid (HR.out.below hal)
  replace HS := Lib.hid (HS.out.below hal)
  replace HD := Lib.hid (HD.out.below hal)
  have HH := Lib.hid (Blk.new w 107 Zc36)
  clear hal
  go_wp2_with fail
  generalize (w.alloc (.cells Zc36 107)) = V1 at *
  refine (CF.out _ HR.out).mono ?_
  rintro e V2 ⟨rfl, rfl⟩
  go_wp2_with fail
  refine (C1.out _ _ HS.out).mono ?_
  rintro e V3 ⟨rfl, hy⟩
  replace K := Lib.hid (K.out.trans (hy.mono K.out.size))
  replace HR := Lib.hid (HR.out.below hy)
  replace HS := Lib.hid (HS.out.below hy)
  replace HD := Lib.hid (HD.out.below hy)
  replace HH := Lib.hid (HH.out.below hy HH.out.lt)
  clear hy
  go_wp2_with (((with_reducible refine wpList_blk_store (op := ⟨none, .store 25 (.tmp 5) (.tmp 19), _, _, _, _⟩) ?sg2 25 (.tmp 5) (.tmp 19) ?so2 (V3.heap.size) S ?sx2 ?sy2 (Blk.new V3 25 Zc17) YS.out ZS.out AS.out ?_); (case sg2 => rfl); (case so2 => rfl); (case sx2 => rfl); (case sy2 => rfl)))
  have qHHNS : w.heap.size < V3.heap.size := HH.out.lt
  intro V4 hA hF hB
  have hy := ((Below.refl V3.heap.size V3).alloc (Nat.le_refl _) (.cells Zc17 25)).trans (hB _ (Nat.le_refl _))
  replace K := Lib.hid (K.out.trans (hy.mono K.out.size))
  replace HR := Lib.hid (HR.out.below hy)
  replace HS := Lib.hid (HS.out.below hy)
  replace HD := Lib.hid (HD.out.below hy)
  replace HH := Lib.hid (HH.out.below hy HH.out.lt)
  have NS := Lib.hid hA
  clear hA hF hB hy
  go_wp2_with fail
  refine (C2.out _ _ HD.out).mono ?_
  rintro e V5 ⟨rfl, hy⟩
  replace K := Lib.hid (K.out.trans (hy.mono K.out.size))
  replace HR := Lib.hid (HR.out.below hy)
  replace HS := Lib.hid (HS.out.below hy)
  replace HD := Lib.hid (HD.out.below hy)
  replace HH := Lib.hid (HH.out.below hy HH.out.lt)
  replace NS := Lib.hid (NS.out.below hy NS.out.lt)
  clear hy
  go_wp2_with (((with_reducible refine wpList_blk_store (op := ⟨none, .store 25 (.tmp 7) (.tmp 25), _, _, _, _⟩) ?sg3 25 (.tmp 7) (.tmp 25) ?so3 (V5.heap.size) D ?sx3 ?sy3 (Blk.new V5 25 Zc17) YD.out ZD.out AD.out ?_); (case sg3 => rfl); (case so3 => rfl); (case sx3 => rfl); (case sy3 => rfl)))
  have qHHND : w.heap.size < V5.heap.size := HH.out.lt
  have qNSND : V3.heap.size < V5.heap.size := NS.out.lt
  intro V6 hA hF hB
  have hy := ((Below.refl V5.heap.size V5).alloc (Nat.le_refl _) (.cells Zc17 25)).trans (hB _ (Nat.le_refl _))
  replace K := Lib.hid (K.out.trans (hy.mono K.out.size))
  replace HR := Lib.hid (HR.out.below hy)
  replace HS := Lib.hid (HS.out.below hy)
  replace HD := Lib.hid (HD.out.below hy)
  replace HH := Lib.hid (HH.out.below hy HH.out.lt)
  replace NS := Lib.hid (NS.out.below hy NS.out.lt)
  have ND := Lib.hid hA
  clear hA hF hB hy
  go_wp2_with fail
  refine wp_region_still_tail 8 (by kernel_rfl) (by kernel_rfl) ?_
  change wpStill _ _ V6.drew (fun a' => wpList _ _ _ _ a' V6.drew) _ _
  have hy := (Below.refl V6.heap.size V6).drew
  replace K := Lib.hid (K.out.trans (hy.mono K.out.size))
  replace HR := Lib.hid (HR.out.below hy)
  replace HS := Lib.hid (HS.out.below hy)
  replace HD := Lib.hid (HD.out.below hy)
  replace HH := Lib.hid (HH.out.below hy HH.out.lt)
  replace NS := Lib.hid (NS.out.below hy NS.out.lt)
  replace ND := Lib.hid (ND.out.below hy ND.out.lt)
  clear hy
  generalize V6.drew = V7 at *
  have c6 := (K.out.cell (p := ⟨b, off + 6, none⟩) hb0).trans c6.out
  simp only [List.take_succ_cons, List.take_zero, List.drop_succ_cons, List.drop_zero]
  still_step
  still_call ((CL.out _ HR.out).mono fun e w' h => ⟨h.1, h.2.symm⟩)
  still_step
  still_step
  still_step
  refine wpStill_step (fun K hK => ?_)
  rw [if_pos (by rfl)]
  refine still_load 25 (.tmp 5) rfl _ rfl (.agg S) (run_blk_load (P := Try.prog) 25 (V3.heap.size) _ NS.out Try.underlying25 rfl ZS.out) (hK _ ?_)
  clear hK K
  refine wpStill_step (fun K hK => ?_)
  rw [if_pos (by rfl)]
  refine still_load 25 (.tmp 7) rfl _ rfl (.agg D) (run_blk_load (P := Try.prog) 25 (V5.heap.size) _ ND.out Try.underlying25 rfl ZD.out) (hK _ ?_)
  clear hK K
  refine wpStill_step (fun K hK => ?_)
  rw [if_pos (by rfl)]
  refine still_build2 107 _ rfl #[(0, .int .i64 ((40 + l : Nat) : Int)), (1, .int .u8 (p : Int)), (2, .agg S), (3, .agg D)] (by kernel_rfl) H HB.out (hK _ ?_)
  clear hK K
  refine wpStill_nil ?_
  simp only [Act.put, tS1, tS2, tS3]
  go_wp2_with (((with_reducible refine wpList_blk_store (op := ⟨none, .store 107 (.tmp 2) (.tmp 34), _, _, _, _⟩) ?sg4 107 (.tmp 2) (.tmp 34) ?so4 (w.heap.size) H ?sx4 ?sy4 HH.out YH.out ZH.out AH.out ?_); (case sg4 => rfl); (case so4 => rfl); (case sx4 => rfl); (case sy4 => rfl)))
  intro V8 hA hF hB
  replace K := Lib.hid (K.out.trans (hB _ (by omega)))
  replace NS := Lib.hid ((hF _ (by omega)).trans NS.out)
  replace ND := Lib.hid ((hF _ (by omega)).trans ND.out)
  replace HH := Lib.hid hA
  clear hA hF hB
  go_wp2
  have hrun := run_blk_load (P := Try.prog) 107 w.heap.size _ HH.out Try.underlying107 rfl ZH.out
  exact bodyPost_ret (results_cell_tmp 2 107 3 w.heap.size _ Try.results68 rfl hrun) rfl ⟨rfl, K.out⟩
set_option maxRecDepth 100000 in
theorem read6_any (v : Value) (zs : List Nat) (w : World) (hr : Rd w v (nus .u8 zs)) (hb : ∀ c ∈ zs, c < 256) :
    Calls Try.prog 68 #[v] w fun e w' => e = .returned (.tuple #[.agg (hd6 zs), .int .i64 (f6 zs : Nat)]) ∧ Below w.heap.size w w' := by
  by_cases h : f6 zs = 0
  · have := read6_yes v zs w hr hb h
    rw [h]; exact this
  · have := read6_no v zs w hr hb h
    have e : hd6 zs = s0 := by unfold hd6; rw [if_neg h]
    rw [e]; exact this
end Go.Proofs.Ythionipmohbnhaa
namespace Go.Proofs.Ythionipmohbnhaa
open Go.RowKit
set_option maxRecDepth 100000 in
set_option maxHeartbeats 2000000 in
theorem dest6_yes (v : Value) (zs : List Nat) (bs : List Nat) (w : World) (hr : Rd w v (nus .u8 zs)) (hb : ∀ c ∈ zs, c < 256) (h : f6 zs = 0) (hz : zs.length ≤ 140737488351232) (hl : bs.length = 16) :
    Calls Try.prog 42 #[v, adr true bs] w fun e w' => ∃ x, e = .returned x ∧ w'.ownsRow w.heap.size 5 1 x zs.length (nus .u8 (dst6 zs bs)) ∧ Below w.heap.size w w' := by
  obtain ⟨h40, -, -, -⟩ := f6_yes zs h
  obtain ⟨a, cap, rfl, hlc, hlm⟩ := rd_shape hr
  obtain ⟨b, off, rfl, hce⟩ := hr.cells (by omega)
  have CB := Lib.hid (fun w' => bytes_own true bs hl w')
  unfold bytesA at CB
  rw [if_pos rfl, hl] at CB
  unfold adr at CB ⊢
  obtain ⟨c, hc⟩ : ∃ c, c = cellsA true bs := ⟨_, rfl⟩
  have hc0 := Lib.hid (show c[0]? = some (.bool true) by rw [hc]; exact cellsA_head _ _)
  have hcz : c.size = 17 := by rw [hc, cellsA_size, hl]
  rw [← hc] at CB ⊢
  have I := Lib.hid (i24.trans (congrArg some hcz.symm))
  have CF := Lib.hid (fun W (h : Rd W (.slice (some ⟨b, off, none⟩) zs.length cap) (nus .u8 zs)) => fault6_any _ zs W h hb)
  rw [h] at CF
  have CC := Lib.hid (fun W h => clone_any ⟨b, off, none⟩ cap zs W h (by omega) (by omega))
  have K := Lib.hid (Below.refl w.heap.size w)
  have HR := Lib.hid hr
  have HD : Hid (dst6 zs bs = ov zs bs 24) := rfl
  have hhl : zs.length ≤ maxLen := by unfold maxLen; omega
  generalize dst6 zs bs = RES at *
  generalize zs.length = n at *
  unfold maxLen at hlm
  clear hr hb hc hce hcz h
  go_enter Try.func42, Try.ntmps42
  have hal := (Below.refl w.heap.size w).alloc (Nat.le_refl _) (.cells c 25)
  replace K := Lib.hid (K.out.trans (hal.mono K.out.size))
  have N := Lib.hid (Blk.new w 25 c)
  clear hal
  go_wp2_with fail
  generalize (w.alloc (.cells c 25)) = V1 at *
  refine (CF.out _ (HR.out.below K.out)).mono ?_
  rintro e V2 ⟨rfl, rfl⟩
  have hcc := (N.out.cell 0).trans hc0.out
  go_wp2_with fail
  have hw1 : w.heap.size ≤ V1.heap.size := K.out.size
  have hN1 : w.heap.size < V1.heap.size := N.out.lt
  refine (CC.out _ (HR.out.below K.out)).mono ?_
  rintro e V3 ⟨x, rfl, hx, hy⟩
  replace K := Lib.hid (K.out.trans (hy.mono K.out.size))
  replace N := Lib.hid (N.out.below hy N.out.lt)
  have O := Lib.hid (hx)
  clear hx
  clear hy
  obtain ⟨g, cx, rfl, hcx, hcxm, hgl, hgu⟩ := own_at O.out (by omega)
  have hlow : g ≤ V3.heap.size := Nat.le_of_lt hgu
  have hNg : w.heap.size + 0 < g := Nat.lt_of_lt_of_le hN1 hgl
  clear hcc
  go_wp2_with fail
  refine wp_region_held (S := (fun w' : World => Below (g) V3 w')) (by kernel_rfl) ?_
  change wpAnyH _ _ _ _ _ _ _ _ V3.drew
  have hy : Below V3.heap.size V3 V3.drew := (Below.refl _ _).drew
  have hE0 : Below (g) V3 V3.drew := (Below.refl _ _).drew
  replace O := Lib.hid (row_under O.out hy)
  clear hy
  generalize V3.drew = Y4x0 at hE0 O ⊢
  have E0 := Lib.hid hE0
  clear hE0
  refine tkA 0 (?_) ?_ E0.out ?_
  rotate_left
  · (intro w1 hS; go_simp; try with_reducible rfl)
  simp only [Act.put, tS1, tS2, tS3]
  refine tkA 1 (?_) ?_ E0.out ?_
  rotate_left
  · (intro w1 hS; have hW := hS; have q : (24 : Int) ≤ (n : Int) := (by omega); have q2 : (cx = 24) = False := (eq_false (by omega)); have q3 : (n : Int) ≤ (cx : Int) := (by omega); clear hW hS; go_simp; try with_reducible rfl)
  simp only [Act.put, tS1, tS2, tS3]
  refine tkA 2 (.agg c) ?_ E0.out ?_
  · (intro w1 hS; have hW := hS; exact exec_load 25 (.tmp 3) rfl _ rfl _ (run_blk_load (P := Try.prog) 25 (w.heap.size) _ (N.out.below hW (by omega)) Try.underlying25 rfl I.out))
  simp only [Act.put, tS1, tS2, tS3]
  refine tkO 3 (fun K hK => ?_)
  go_simp
  refine (CB.out Y4x0).mono ?_
  rintro e Y4x1 ⟨z, rfl, hz, hy⟩
  replace O := Lib.hid (row_under O.out hy)
  have E1 := Lib.hid (E0.out.trans (hy.mono (Nat.le_trans hlow E0.out.size)))
  have C1 := Lib.hid E1.out
  have Z := Lib.hid (hz)
  clear hy E0
  refine hK.out _ _ C1.out (fun _ => ?_)
  clear hK K
  clear C1
  try simp only [Act.put, tS1, tS2, tS3]
  obtain ⟨gz, cz, rfl, -, -, -, -⟩ := own_at Z.out (by omega)
  refine tkO 4 (fun K hK => ?_)
  rw [if_pos (by rfl)]
  refine wp_copy_into (.tmp 17) (.tmp 19) 22 22 rfl 5 Try.underlying22 Try.size5 g 24 n cx _ (n - 24) (cx - 24) 5 .u8 zs bs (some ⟨gz, 0, none⟩) 16 cz rfl rfl O.out (Rd.own Z.out) (by omega) (by omega) (by omega) ?_
  intro Y4x2 oz gz
  clear Z
  replace O := oz
  have E2 := Lib.hid (E1.out.grown gz (Nat.le_trans hlow E1.out.size) (fun k e => by cases e; first | exact Nat.le_refl _ | omega))
  have C2 := Lib.hid E2.out
  clear gz E1
  refine hK.out _ _ C2.out (fun _ => ?_)
  clear hK K
  clear C2
  try simp only [Act.put, tS1, tS2, tS3]
  refine wpAnyH_done (by kernel_rfl) ?_ _
  replace K := Lib.hid (K.out.trans (E2.out.mono (by omega)))
  replace N := Lib.hid (N.out.below E2.out (by omega))
  clear E2
  rw [← HD.out] at O
  go_wp2
  go_ret
  exact ⟨_, rfl, own_low hw1 O.out, K.out⟩
end Go.Proofs.Ythionipmohbnhaa
