/- Texts that the walks of this seat lean on, put together. -/
import Derived.Test.YthionipmohbnhaaTk
import Derived.Test.YthionipmohbnhaaM01
import Derived.Test.YthionipmohbnhaaM02
import Derived.Test.YthionipmohbnhaaM04
import Derived.Test.YthionipmohbnhaaM05
import Derived.Test.YthionipmohbnhaaM06
import Derived.Test.YthionipmohbnhaaM08
namespace Go.Proofs.Ythionipmohbnhaa
open Go.RowKit
set_option maxRecDepth 100000 in
set_option maxHeartbeats 1000000 in
theorem port_no (p : Nat) (v : Value) (zs : List Nat) (tp : Nat) (v1 : Bool) (F : List Nat) (v2 : Bool) (D : List Nat) (w : World) (hr : Rd w v (nus .u8 zs)) (hb : ∀ c ∈ zs, c < 256) (h : fs p zs ≠ 0 ∨ v1 ≠ v2) :
    Calls Try.prog 44 #[.int .u8 (p : Int), v, .int .u16 (tp : Int), adr v1 F, adr v2 D] w fun e w' => e = .returned (.slice none 0 0) ∧ Below w.heap.size w w' := by
  obtain ⟨a, cap, rfl, -, -⟩ := rd_shape hr
  unfold adr
  have e1 : (cellsA v1 F)[0]? = some (.bool v1) := cellsA_head _ _
  have e2 : (cellsA v2 D)[0]? = some (.bool v2) := cellsA_head _ _
  generalize cellsA v1 F = c1 at *
  generalize cellsA v2 D = c2 at *
  have B1 := (Below.refl w.heap.size w).alloc (Nat.le_refl _) (.cells c1 25)
  have hB2 := B1.alloc B1.size (.cells c2 25)
  have CF := Lib.hid (fault_any p _ zs _ (hr.below hB2) hb)
  have HB := Lib.hid hB2
  have hc1 := (((Blk.new w 25 c1).alloc (.cells c2 25)).cell 0).trans e1
  have hc2 := ((Blk.new (w.alloc (.cells c1 25)) 25 c2).cell 0).trans e2
  rw [World.size_alloc] at hc2
  generalize fs p zs = r at *
  generalize zs.length = n at *
  clear e1 e2 B1 hB2 hr hb
  by_cases hr0 : r = 0
  · have hv : v1 ≠ v2 := by rcases h with h | h; exact absurd hr0 h; exact h
    subst hr0
    clear h
    cases v1 <;> cases v2
    · exact absurd rfl hv
    · clear hv
      go_enter Try.func44, Try.ntmps44
      go_wp2_with fail
      refine CF.out.mono ?_; rintro e w' ⟨rfl, rfl⟩
      go_wp2
      go_ret
      exact ⟨rfl, HB.out⟩
    · clear hv
      go_enter Try.func44, Try.ntmps44
      go_wp2_with fail
      refine CF.out.mono ?_; rintro e w' ⟨rfl, rfl⟩
      go_wp2
      go_ret
      exact ⟨rfl, HB.out⟩
    · exact absurd rfl hv
  · have g0 : ((r : Int) != 0) = true := by simp; omega
    clear h hr0 hc1 hc2
    go_enter Try.func44, Try.ntmps44
    go_wp2_with fail
    refine CF.out.mono ?_; rintro e w' ⟨rfl, rfl⟩
    go_wp2
    go_ret
    exact ⟨rfl, HB.out⟩
set_option maxRecDepth 100000 in
set_option maxHeartbeats 4000000 in
theorem port_yes (p : Nat) (v : Value) (zs : List Nat) (tp : Nat) (v1 : Bool) (F D : List Nat) (w : World) (hr : Rd w v (nus .u8 zs)) (hb : ∀ c ∈ zs, c < 256) (h : fs p zs = 0) (hz : zs.length ≤ 140737488351232) (ht : tp < 65536)
    (hF : F.length = 16) (hD : D.length = 16) (hbF : ∀ c ∈ F, c < 256) (hbD : ∀ c ∈ D, c < 256) :
    Calls Try.prog 44 #[.int .u8 (p : Int), v, .int .u16 (tp : Int), adr v1 F, adr v1 D] w fun e w' => ∃ x, e = .returned x ∧ Rd w' x (nus .u8 (prt p zs tp v1 F D)) ∧ Below w.heap.size w w' := by
  have hn8 : 8 ≤ zs.length := by rcases fs_yes p zs h with ⟨-, h1, -⟩ | ⟨-, h1, -⟩ <;> omega
  have hat := sAt_in p zs h
  have hat1 := sAt_le p
  obtain ⟨a, cap, rfl, hlc, hlm⟩ := rd_shape hr
  obtain ⟨b, off, rfl, -⟩ := hr.cells (by omega)
  have CB1 := Lib.hid (fun w' => bytes_own v1 F hF w')
  have CB2 := Lib.hid (fun w' => bytes_own v1 D hD w')
  have lF := bytesA_len v1 F hF
  have lD := bytesA_len v1 D hD
  have bF := bytesA_lt v1 F hbF
  have bD := bytesA_lt v1 D hbD
  have CF := Lib.hid (fun W (h : Rd W (.slice (some ⟨b, off, none⟩) zs.length cap) (nus .u8 zs)) => fault_any p _ zs W h hb)
  rw [h] at CF
  have CC := Lib.hid (fun W h => clone_any ⟨b, off, none⟩ cap zs W h (by omega) (by omega))
  have CP := Lib.hid (fun W g cx base (h : W.ownsRow base 5 1 (.slice (some ⟨g, 0, none⟩) zs.length cx) zs.length (nus .u8 zs)) => put16_yes g zs.length cx base 2 tp zs W h (by omega) (by omega) ht)
  rw [put_ov] at CP
  have CT := Lib.hid (fun W (h : Rd W (.slice (some ⟨b, off, none⟩) zs.length cap) (nus .u8 zs)) => without_any p _ zs W h hb (fun _ => by omega))
  have CA := Lib.hid (fun W => sumAt_any p W)
  have CW := Lib.hid (fun W (h : Rd W (.slice (some ⟨b, off, none⟩) zs.length cap) (nus .u8 zs)) => word_any _ (sAt p) zs W h hb (by omega))
  have hwl := u2_lt zs (sAt p) hb
  have hm2 : ((ov zs (bg 2 tp) 2).drop 2).take 2 = bg 2 tp := ov_two zs tp (by omega)
  have l2 := two_at zs 2 (by omega)
  have CG := Lib.hid (fun W x y h1 h2 => change_any (u2 zs (sAt p)) x y ((zs.drop 2).take 2) (bg 2 tp) W h1 h2 (by omega) (fun c hc => hb c (List.mem_of_mem_drop (List.mem_of_mem_take hc))) (bg_lt 2 tp) hwl)
  have hc0 : chA (u2 zs (sAt p)) ((zs.drop 2).take 2) (bg 2 tp) < 65536 := chA_lt _ _ _ hwl
  have CH := Lib.hid (fun W x y h1 h2 => change_any (chA (u2 zs (sAt p)) ((zs.drop 2).take 2) (bg 2 tp)) x y (bytesA v1 F) (bytesA v1 D) W h1 h2 (by rw [lF]; split <;> omega) bF bD hc0)
  have hp1 := pc1_lt p zs tp v1 F D hb
  have hpc := pc_lt p zs tp v1 F D hb
  rw [show chA (chA (u2 zs (sAt p)) ((zs.drop 2).take 2) (bg 2 tp)) (bytesA v1 F) (bytesA v1 D) = pc1 p zs tp v1 F D from rfl] at CH
  have lov : (ov zs (bg 2 tp) 2).length = zs.length := ov_length _ _ _ (by rw [bg_length]; omega)
  have CQ := Lib.hid (fun W g cx base (h : W.ownsRow base 5 1 (.slice (some ⟨g, 0, none⟩) zs.length cx) zs.length (nus .u8 (ov zs (bg 2 tp) 2))) => put16_yes g zs.length cx base (sAt p) (pc p zs tp v1 F D) (ov zs (bg 2 tp) 2) W h (by omega) (by omega) hpc)
  rw [put_ov] at CQ
  have HS1 := Lib.hid (hr.sub 2 2 (by omega))
  have HP : Hid (pc p zs tp v1 F D = if p = 17 ∧ pc1 p zs tp v1 F D = 0 then 65535 else pc1 p zs tp v1 F D) := rfl
  have HX : Hid (prt p zs tp v1 F D = if wo p zs then ov zs (bg 2 tp) 2 else ov (ov zs (bg 2 tp) 2) (bg 2 (pc p zs tp v1 F D)) (sAt p)) := rfl
  unfold adr at CB1 CB2 ⊢
  have E1 := Lib.hid (show (cellsA v1 F)[0]? = some (.bool v1) from cellsA_head _ _)
  have E2 := Lib.hid (show (cellsA v1 D)[0]? = some (.bool v1) from cellsA_head _ _)
  have z1 : (cellsA v1 F).size = 17 := by rw [cellsA_size, hF]
  have z2 : (cellsA v1 D).size = 17 := by rw [cellsA_size, hD]
  have I1 := Lib.hid (i24.trans (congrArg some z1.symm))
  have I2 := Lib.hid (i24.trans (congrArg some z2.symm))
  have HM2 := Lib.hid hm2
  have K := Lib.hid (Below.refl w.heap.size w)
  have HR := Lib.hid hr
  clear hr hb h z1 z2 hbF hbD bF bD hm2 hc0 l2 lF lD hF hD
  generalize cellsA v1 F = c1 at *
  generalize cellsA v1 D = c2 at *
  generalize bytesA v1 F = bf at *
  generalize bytesA v1 D = bd at *
  generalize wo p zs = wq at *
  generalize pc p zs tp v1 F D = pcv at *
  generalize pc1 p zs tp v1 F D = pc1v at *
  generalize prt p zs tp v1 F D = RES at *
  generalize u2 zs (sAt p) = o0 at *
  generalize ov zs (bg 2 tp) 2 = ZO at *
  generalize (zs.drop 2).take 2 = Z2 at *
  generalize chA o0 Z2 (bg 2 tp) = ch0 at *
  generalize bg 2 tp = bt at *
  obtain ⟨at0, hat0⟩ : ∃ x, x = sAt p := ⟨_, rfl⟩
  rw [← hat0] at CA CW CQ HX hat hat1
  clear hat0
  generalize zs.length = n at *
  unfold maxLen at hlm
  go_enter Try.func44, Try.ntmps44
  have hal := (Below.refl w.heap.size w).alloc (Nat.le_refl _) (.cells c1 25)
  replace K := Lib.hid (K.out.trans (hal.mono K.out.size))
  have N1 := Lib.hid (Blk.new w 25 c1)
  clear hal
  have hal := (Below.refl (w.alloc (.cells c1 25)).heap.size (w.alloc (.cells c1 25))).alloc (Nat.le_refl _) (.cells c2 25)
  replace K := Lib.hid (K.out.trans (hal.mono K.out.size))
  replace N1 := Lib.hid (N1.out.below hal N1.out.lt)
  have N2q := Blk.new (w.alloc (.cells c1 25)) 25 c2
  simp only [World.size_alloc] at N2q
  have N2 := Lib.hid N2q
  clear N2q
  clear hal
  have hc1 := (N1.out.cell 0).trans E1.out
  have hc2 := (N2.out.cell 0).trans E2.out
  have ge : (v1 != v1) = false := by cases v1 <;> rfl
  go_wp2_with fail
  have hzV1 : Hid (((w.alloc (.cells c1 25)).alloc (.cells c2 25)).heap.size = w.heap.size + 1 + 1) := by show _ = _; simp only [World.size_alloc]
  generalize ((w.alloc (.cells c1 25)).alloc (.cells c2 25)) = V1 at *
  refine (CF.out _ (HR.out.below K.out)).mono ?_
  rintro e V2 ⟨rfl, rfl⟩
  go_wp2_with fail
  have hw1 : w.heap.size ≤ V1.heap.size := K.out.size
  have hN1 : w.heap.size + 1 < V1.heap.size := N2.out.lt
  clear hc1 hc2
  refine (CC.out _ (HR.out.below K.out)).mono ?_
  rintro e V3 ⟨x, rfl, hx, hy⟩
  replace K := Lib.hid (K.out.trans (hy.mono K.out.size))
  replace N1 := Lib.hid (N1.out.below hy N1.out.lt)
  replace N2 := Lib.hid (N2.out.below hy N2.out.lt)
  have O := Lib.hid (hx)
  clear hx
  clear hy
  obtain ⟨g, cx, rfl, hcx, hcxm, hgl, hgu⟩ := own_at O.out (by omega)
  clear ge
  go_wp2_with fail
  refine (CP.out _ _ _ _ O.out).mono ?_
  rintro e V4 ⟨rfl, og, gr⟩
  replace K := Lib.hid (K.out.grown gr K.out.size (fun k e => by first | (cases e; done) | (cases e; first | exact Nat.le_refl _ | omega)))
  replace N1 := Lib.hid (show Blk _ _ _ _ from (gr.block _ N1.out.lt (by first | (simp; done) | (simp; omega))).trans N1.out)
  replace N2 := Lib.hid (show Blk _ _ _ _ from (gr.block _ N2.out.lt (by first | (simp; done) | (simp; omega))).trans N2.out)
  replace O := Lib.hid og
  clear og gr
  go_wp2_with fail
  refine (CT.out _ (HR.out.below K.out)).mono ?_
  rintro e V5 ⟨rfl, rfl⟩
  cases wq with
  | true =>
    rw [show ZO = RES by rw [HX.out]; rfl] at O
    clear HX
    go_wp2
    go_ret
    exact ⟨_, rfl, Rd.own O.out, K.out⟩
  | false =>
    have HX2 := Lib.hid (show RES = ov ZO (bg 2 pcv) at0 by rw [HX.out]; rfl)
    clear HX
    go_wp2_with fail
    refine (CA.out _).mono ?_
    rintro e V6 ⟨rfl, rfl⟩
    go_wp2_with fail
    have hs2 := (Rd.own O.out).sub 2 2 (by omega)
    rw [HM2.out] at hs2
    have HS2 := Lib.hid hs2
    have H1 := Lib.hid (HR.out.below K.out)
    have H2 := Lib.hid (HS1.out.below K.out)
    clear hs2
    go_wp2_with fail
    refine wp_region_held (S := (fun w' : World => Below (V4.heap.size) V4 w')) (by kernel_rfl) ?_
    change wpAnyH _ _ _ _ _ _ _ _ V4.drew
    have hy : Below V4.heap.size V4 V4.drew := (Below.refl _ _).drew
    have hE0 : Below (V4.heap.size) V4 V4.drew := (Below.refl _ _).drew
    clear hy
    generalize V4.drew = Y8x0 at hE0  ⊢
    have E0 := Lib.hid hE0
    clear hE0
    refine tkA 0 (?_) ?_ E0.out ?_
    rotate_left
    · (intro w1 hS; go_simp; try with_reducible rfl)
    simp only [Act.put, tS1, tS2, tS3]
    refine tkA 1 (?_) ?_ E0.out ?_
    rotate_left
    · (intro w1 hS; go_simp; try with_reducible rfl)
    simp only [Act.put, tS1, tS2, tS3]
    refine tkA 3 (?_) ?_ E0.out ?_
    rotate_left
    · (intro w1 hS; go_simp; try with_reducible rfl)
    simp only [Act.put, tS1, tS2, tS3]
    refine tkA 4 (?_) ?_ E0.out ?_
    rotate_left
    · (intro w1 hS; go_simp; try with_reducible rfl)
    simp only [Act.put, tS1, tS2, tS3]
    refine tkA 5 (?_) ?_ E0.out ?_
    rotate_left
    · (intro w1 hS; have hW := hS; have q : (2 : Int) ≤ (cap : Int) := (by omega); have q3 : (4 : Int) ≤ (cap : Int) := (by omega); have q4 : (4 : Int) ≤ (n : Int) := (by omega); have q2 : (cap = 2) = False := (eq_false (by omega)); clear hW hS; go_simp; try with_reducible rfl)
    simp only [Act.put, tS1, tS2, tS3]
    refine tkA 6 (?_) ?_ E0.out ?_
    rotate_left
    · (intro w1 hS; go_simp; try with_reducible rfl)
    simp only [Act.put, tS1, tS2, tS3]
    refine tkA 7 (?_) ?_ E0.out ?_
    rotate_left
    · (intro w1 hS; go_simp; try with_reducible rfl)
    simp only [Act.put, tS1, tS2, tS3]
    refine tkA 8 (?_) ?_ E0.out ?_
    rotate_left
    · (intro w1 hS; have hW := hS; have q : (2 : Int) ≤ (cx : Int) := (by omega); have q3 : (4 : Int) ≤ (cx : Int) := (by omega); have q4 : (4 : Int) ≤ (n : Int) := (by omega); have q2 : (cx = 2) = False := (eq_false (by omega)); clear hW hS; go_simp; try with_reducible rfl)
    simp only [Act.put, tS1, tS2, tS3]
    refine tkO 2 (fun KK hK => ?_)
    go_simp
    refine (same_below (CW.out Y8x0 (H1.out.below E0.out))).mono ?_
    rintro e Y8x1 ⟨rfl, hy⟩
    have E1 := Lib.hid (E0.out.trans (hy.mono E0.out.size))
    have C1 := Lib.hid E1.out
    clear hy E0
    refine hK.out _ _ C1.out (fun _ => ?_)
    clear hK KK
    refine wpAnyH_mono (S' := (fun w' : World => Below Y8x1.heap.size Y8x1 w')) (fun w1 h => C1.out.trans (h.mono C1.out.size)) _ _ _ _ ?_
    clear C1
    try simp only [Act.put, tS1, tS2, tS3]
    refine tkO 9 (fun KK hK => ?_)
    go_simp
    refine (CG.out Y8x1 _ _ (H2.out.below E1.out) (HS2.out.below E1.out)).mono ?_
    rintro e Y8x2 ⟨rfl, hy⟩
    have E2 := Lib.hid (E1.out.trans (hy.mono E1.out.size))
    have C2 := Lib.hid hy
    clear hy E1
    refine hK.out _ _ C2.out (fun _ => ?_)
    clear hK KK
    refine wpAnyH_mono (S' := (fun w' : World => Below Y8x2.heap.size Y8x2 w')) (fun w1 h => C2.out.trans (h.mono C2.out.size)) _ _ _ _ ?_
    clear C2
    try simp only [Act.put, tS1, tS2, tS3]
    refine tkA 10 (?_) ?_ (Below.refl _ _) ?_
    rotate_left
    · (intro w1 hS; go_simp; try with_reducible rfl)
    simp only [Act.put, tS1, tS2, tS3]
    refine wpAnyH_done (by kernel_rfl) ?_ _
    have hy := E2.out
    replace K := Lib.hid (K.out.trans (hy.mono K.out.size))
    replace N1 := Lib.hid (N1.out.below hy N1.out.lt)
    replace N2 := Lib.hid (N2.out.below hy N2.out.lt)
    replace O := Lib.hid (row_under O.out hy)
    clear hy E2
    clear H1 H2 HS2
    go_wp2_with fail
    refine wp_region_held (S := (fun w' : World => Below (Y8x2.heap.size) Y8x2 w')) (by kernel_rfl) ?_
    change wpAnyH _ _ _ _ _ _ _ _ Y8x2.drew
    have hy : Below Y8x2.heap.size Y8x2 Y8x2.drew := (Below.refl _ _).drew
    have hE0 : Below (Y8x2.heap.size) Y8x2 Y8x2.drew := (Below.refl _ _).drew
    clear hy
    generalize Y8x2.drew = Y9x0 at hE0  ⊢
    have E0 := Lib.hid hE0
    clear hE0
    refine tkA 0 (?_) ?_ E0.out ?_
    rotate_left
    · (intro w1 hS; go_simp; try with_reducible rfl)
    simp only [Act.put, tS1, tS2, tS3]
    refine tkA 1 (.agg c1) ?_ E0.out ?_
    · (intro w1 hS; have hW := hS; exact exec_load 25 (.tmp 8) rfl _ rfl _ (run_blk_load (P := Try.prog) 25 (w.heap.size) _ (N1.out.below hW N1.out.lt) Try.underlying25 rfl I1.out))
    simp only [Act.put, tS1, tS2, tS3]
    refine tkA 3 (.agg c2) ?_ E0.out ?_
    · (intro w1 hS; have hW := hS; exact exec_load 25 (.tmp 9) rfl _ rfl _ (run_blk_load (P := Try.prog) 25 (w.heap.size + 1) _ (N2.out.below hW N2.out.lt) Try.underlying25 rfl I2.out))
    simp only [Act.put, tS1, tS2, tS3]
    refine tkO 2 (fun KK hK => ?_)
    go_simp
    refine (CB1.out Y9x0).mono ?_
    rintro e Y9x1 ⟨z1, rfl, oz1, hy⟩
    have E1 := Lib.hid (E0.out.trans (hy.mono E0.out.size))
    have C1 := Lib.hid E1.out
    have Z1 := Lib.hid (oz1)
    clear oz1
    clear hy E0
    refine hK.out _ _ C1.out (fun _ => ?_)
    clear hK KK
    refine wpAnyH_mono (S' := (fun w' : World => Below Y9x1.heap.size Y9x1 w')) (fun w1 h => C1.out.trans (h.mono C1.out.size)) _ _ _ _ ?_
    clear C1
    try simp only [Act.put, tS1, tS2, tS3]
    refine tkO 4 (fun KK hK => ?_)
    go_simp
    refine (CB2.out Y9x1).mono ?_
    rintro e Y9x2 ⟨z2, rfl, oz2, hy⟩
    replace Z1 := Lib.hid (row_under Z1.out hy)
    have E2 := Lib.hid (E1.out.trans (hy.mono E1.out.size))
    have C2 := Lib.hid hy
    have Z2o := Lib.hid (oz2)
    clear oz2
    clear hy E1
    refine hK.out _ _ C2.out (fun _ => ?_)
    clear hK KK
    refine wpAnyH_mono (S' := (fun w' : World => Below Y9x2.heap.size Y9x2 w')) (fun w1 h => C2.out.trans (h.mono C2.out.size)) _ _ _ _ ?_
    clear C2
    try simp only [Act.put, tS1, tS2, tS3]
    refine tkO 5 (fun KK hK => ?_)
    go_simp
    refine (CH.out Y9x2 _ _ (Rd.own Z1.out) (Rd.own Z2o.out)).mono ?_
    rintro e Y9x3 ⟨rfl, hy⟩
    replace Z1 := Lib.hid (row_under Z1.out hy)
    replace Z2o := Lib.hid (row_under Z2o.out hy)
    have E3 := Lib.hid (E2.out.trans (hy.mono E2.out.size))
    have C3 := Lib.hid hy
    clear hy E2
    refine hK.out _ _ C3.out (fun _ => ?_)
    clear hK KK
    refine wpAnyH_mono (S' := (fun w' : World => Below Y9x3.heap.size Y9x3 w')) (fun w1 h => C3.out.trans (h.mono C3.out.size)) _ _ _ _ ?_
    clear C3
    try simp only [Act.put, tS1, tS2, tS3]
    refine tkA 6 (?_) ?_ (Below.refl _ _) ?_
    rotate_left
    · (intro w1 hS; go_simp; try with_reducible rfl)
    simp only [Act.put, tS1, tS2, tS3]
    refine wpAnyH_done (by kernel_rfl) ?_ _
    have hy := E3.out
    replace K := Lib.hid (K.out.trans (hy.mono K.out.size))
    replace N1 := Lib.hid (N1.out.below hy N1.out.lt)
    replace N2 := Lib.hid (N2.out.below hy N2.out.lt)
    replace O := Lib.hid (row_under O.out hy)
    clear hy E3
    clear Z1 Z2o
    by_cases hp : p = 17 ∧ pc1v = 0
    · obtain ⟨rfl, rfl⟩ := hp
      obtain rfl : pcv = 65535 := by rw [HP.out, if_pos ⟨rfl, rfl⟩]
      clear HP
      go_wp2_with fail
      refine (CQ.out _ _ _ _ O.out).mono ?_
      rintro e V7 ⟨rfl, og, gr⟩
      replace K := Lib.hid (K.out.grown gr K.out.size (fun k e => by first | (cases e; done) | (cases e; first | exact Nat.le_refl _ | omega)))
      replace N1 := Lib.hid (show Blk _ _ _ _ from (gr.block _ N1.out.lt (by first | (simp; done) | (simp; omega))).trans N1.out)
      replace N2 := Lib.hid (show Blk _ _ _ _ from (gr.block _ N2.out.lt (by first | (simp; done) | (simp; omega))).trans N2.out)
      replace O := Lib.hid og
      clear og gr
      rw [← HX2.out] at O
      go_wp2
      go_ret
      exact ⟨_, rfl, Rd.own O.out, K.out⟩
    obtain rfl : pcv = pc1v := by rw [HP.out, if_neg hp]
    clear HP
    have fin : (((p : Int) == 17) && ((pcv : Int) == 0)) = false := by
      rw [Bool.and_eq_false_iff, beq_eq_false_iff_ne, beq_eq_false_iff_ne]; omega
    by_cases h17 : p = 17
    · subst h17
      have g0 : ((pcv : Int) == 0) = false := by rw [beq_eq_false_iff_ne]; omega
      clear hp fin
      go_wp2_with fail
      refine (CQ.out _ _ _ _ O.out).mono ?_
      rintro e V7 ⟨rfl, og, gr⟩
      replace K := Lib.hid (K.out.grown gr K.out.size (fun k e => by first | (cases e; done) | (cases e; first | exact Nat.le_refl _ | omega)))
      replace N1 := Lib.hid (show Blk _ _ _ _ from (gr.block _ N1.out.lt (by first | (simp; done) | (simp; omega))).trans N1.out)
      replace N2 := Lib.hid (show Blk _ _ _ _ from (gr.block _ N2.out.lt (by first | (simp; done) | (simp; omega))).trans N2.out)
      replace O := Lib.hid og
      clear og gr
      rw [← HX2.out] at O
      go_wp2
      go_ret
      exact ⟨_, rfl, Rd.own O.out, K.out⟩
    · have g0 : ((p : Int) == 17) = false := by rw [beq_eq_false_iff_ne]; omega
      clear hp fin h17
      go_wp2_with fail
      refine (CQ.out _ _ _ _ O.out).mono ?_
      rintro e V7 ⟨rfl, og, gr⟩
      replace K := Lib.hid (K.out.grown gr K.out.size (fun k e => by first | (cases e; done) | (cases e; first | exact Nat.le_refl _ | omega)))
      replace N1 := Lib.hid (show Blk _ _ _ _ from (gr.block _ N1.out.lt (by first | (simp; done) | (simp; omega))).trans N1.out)
      replace N2 := Lib.hid (show Blk _ _ _ _ from (gr.block _ N2.out.lt (by first | (simp; done) | (simp; omega))).trans N2.out)
      replace O := Lib.hid og
      clear og gr
      rw [← HX2.out] at O
      go_wp2
      go_ret
      exact ⟨_, rfl, Rd.own O.out, K.out⟩
theorem port_any (p : Nat) (v : Value) (zs : List Nat) (tp : Nat) (v1 : Bool) (F : List Nat) (v2 : Bool) (D : List Nat) (w : World) (hr : Rd w v (nus .u8 zs)) (hb : ∀ c ∈ zs, c < 256) (hz : zs.length ≤ 140737488351232) (ht : tp < 65536)
    (hF : F.length = 16) (hD : D.length = 16) (hbF : ∀ c ∈ F, c < 256) (hbD : ∀ c ∈ D, c < 256) :
    Calls Try.prog 44 #[.int .u8 (p : Int), v, .int .u16 (tp : Int), adr v1 F, adr v2 D] w fun e w' => ∃ x, e = .returned x ∧ Rd w' x (nus .u8 (pOut p zs tp v1 F v2 D)) ∧ Below w.heap.size w w' := by
  unfold pOut
  by_cases h : fs p zs = 0 ∧ v1 = v2
  · obtain ⟨h1, rfl⟩ := h
    rw [if_pos ⟨h1, rfl⟩]
    exact port_yes p v zs tp v1 F D w hr hb h1 hz ht hF hD hbF hbD
  · rw [if_neg h]
    exact (port_no p v zs tp v1 F v2 D w hr hb (by by_cases h1 : fs p zs = 0; exact .inr (fun e => h ⟨h1, e⟩); exact .inl h1)).mono fun _ _ ⟨e, b⟩ => ⟨_, e, rd_nil _ _, b⟩
end Go.Proofs.Ythionipmohbnhaa
namespace Go.Proofs.Ythionipmohbnhaa
open Go.RowKit
set_option maxHeartbeats 800000 in
theorem rnet_any (v : Value) (zs : List Nat) (w : World) (hr : Rd w v (nus .u8 zs)) (hb : ∀ c ∈ zs, c < 256) :
    Calls Try.prog 33 #[v] w fun e w' => e = .returned (.tuple #[.int .i64 ((net zs).1 : Nat), .int .i64 ((net zs).2.1 : Nat), .int .i64 ((net zs).2.2 : Nat)]) ∧ Below w.heap.size w w' := by
  have HR := Lib.hid hr
  have HB := Lib.hid hb
  obtain ⟨a, cap, rfl, hlc, hl, -⟩ := hr
  rw [nus_length] at hlc HR ⊢
  have hk1 := u2_lt zs 12 hb
  have hk2 := u2_lt zs 16 hb
  clear hb
  have hlm : zs.length ≤ maxLen := Nat.le_trans hlc hl
  unfold maxLen at hlm
  clear hl hlc
  by_cases h14 : zs.length < 14
  · rw [net_short zs h14]
    go_enter Try.func33, Try.ntmps33
    go_wp2
    go_ret3
    exact ⟨rfl, Below.refl _ _⟩
  · by_cases hv : u2 zs 12 = 33024
    · by_cases h18 : zs.length < 18
      · rw [net_cut zs h14 hv h18]
        go_enter Try.func33, Try.ntmps33
        go_wp2_with fail
        refine (be16_any _ _ _ 12 zs _ HR.out HB.out (by omega)).mono ?_; rintro e w' ⟨rfl, n, rfl⟩
        rw [show zs.getD 12 0 * 256 + zs.getD (12 + 1) 0 = 33024 from hv]
        go_wp2
        go_ret3
        exact ⟨rfl, below_drewN (Below.refl _ _) _⟩
      · rw [net_tag zs h14 hv h18]
        obtain ⟨kd, hK⟩ : ∃ k, k = u2 zs 16 := ⟨_, rfl⟩
        rw [← hK] at hk2 ⊢
        have HK := Lib.hid (show zs.getD 16 0 * 256 + zs.getD (16 + 1) 0 = kd from hK.symm)
        clear hK
        go_enter Try.func33, Try.ntmps33
        go_wp2_with fail
        refine (be16_any _ _ _ 12 zs _ HR.out HB.out (by omega)).mono ?_; rintro e w' ⟨rfl, n, rfl⟩
        rw [show zs.getD 12 0 * 256 + zs.getD (12 + 1) 0 = 33024 from hv]
        go_wp2_with fail
        refine (be16_any _ _ _ 16 zs _ (HR.out.below (below_drewN (Below.refl _ _) _)) HB.out (by omega)).mono ?_; rintro e w' ⟨rfl, n, rfl⟩
        rw [HK.out]
        clear hv hk1
        by_cases h1 : kd = 2048
        · subst h1
          go_wp2
          go_ret3
          exact ⟨rfl, below_drewN (Below.refl _ _) _⟩
        · by_cases h2 : kd = 34525
          · subst h2
            go_wp2
            go_ret3
            exact ⟨rfl, below_drewN (Below.refl _ _) _⟩
          · have en := Lib.hid (netK_no 18 kd h1 h2)
            have g1 : ((kd : Int) != 2048) = true := by simp; omega
            have g2 : ((kd : Int) != 34525) = true := by simp; omega
            clear h1 h2
            go_wp2
            go_ret3
            exact ⟨by rw [en.out]; rfl, below_drewN (Below.refl _ _) _⟩
    · rw [net_bare zs h14 hv]
      obtain ⟨kd, hK⟩ : ∃ k, k = u2 zs 12 := ⟨_, rfl⟩
      rw [← hK] at hk1 hv ⊢
      have HK := Lib.hid (show zs.getD 12 0 * 256 + zs.getD (12 + 1) 0 = kd from hK.symm)
      clear hK
      go_enter Try.func33, Try.ntmps33
      go_wp2_with fail
      refine (be16_any _ _ _ 12 zs _ HR.out HB.out (by omega)).mono ?_; rintro e w' ⟨rfl, n, rfl⟩
      rw [HK.out]
      clear hk2
      have B2 := Lib.hid (below_drewN (Below.refl w.heap.size w) n)
      have g0 : ((kd : Int) == 33024) = false := by simp; omega
      clear hv
      by_cases h1 : kd = 2048
      · subst h1
        go_wp2
        go_ret3
        exact ⟨rfl, B2.out⟩
      · by_cases h2 : kd = 34525
        · subst h2
          go_wp2
          go_ret3
          exact ⟨rfl, B2.out⟩
        · have en := Lib.hid (netK_no 14 kd h1 h2)
          have g1 : ((kd : Int) != 2048) = true := by simp; omega
          have g2 : ((kd : Int) != 34525) = true := by simp; omega
          clear h1 h2
          go_wp2
          go_ret3
          exact ⟨by rw [en.out]; rfl, B2.out⟩
end Go.Proofs.Ythionipmohbnhaa
namespace Go.Proofs.Ythionipmohbnhaa
open Go.RowKit
theorem wp_app {w : World} {K : Act → World → Prop} {Q : Exit → Act → World → Prop} {o : Oper} {a : Act} (s x : Operand)
    (ho : o.op = .call { callee := .builtin .append, args := #[s, x], argTypes := #[22, 22] })
    (base : Nat) (v : Value) (n : Nat) (zs : List Nat) (hs : a.eval s = v) (hown : w.ownsRow base 5 1 v n (nus .u8 zs))
    (ao : Option Addr) (len cap : Nat) (bs : List Nat) (hx : a.eval x = .slice ao len cap) (hr : Rd w (.slice ao len cap) (nus .u8 bs)) (hn : ao = none → cap = 0) (hlen : n + len ≤ 1000000) (hbase : base ≤ w.heap.size)
    (h : ∀ v' w', w'.ownsRow base 5 1 v' (n + len) (nus .u8 (zs ++ bs)) → w.grownBy w' v.ownBlock → K (a.put o.dst v') w') :
    o.wp Try.prog a w K Q := by
  obtain ⟨i0, hi, hz0, hz1, hz2⟩ := info_parts Try.info5
  obtain ⟨a', cap', e, h1, h2, h3⟩ := hr
  simp only [Value.slice.injEq] at e
  obtain ⟨rfl, he, rfl⟩ := e
  rw [nus_length] at he h1 h3
  subst he
  cases ao with
  | none =>
    obtain rfl := hn rfl
    have hb : bs = [] := by cases bs with | nil => rfl | cons _ _ => simp at h1
    subst hb
    have hrun := run_append_owned_none (P := Try.prog) (w := w) base 22 o.type 5 i0 1 Try.underlying22 hi v n (nus .u8 zs) hown
    unfold Oper.wp
    simp [execOp, ho, resolve, invoke, builtin, hs, hx, hrun, Result.andThen]
    exact h v w (by simpa using hown) (World.grownBy.refl _ _)
  | some ad =>
    refine wp_append_own w s x 22 ho base 5 i0 (.int .u8 0) 1 1 Try.underlying22 hi hz0 hz1 hz2 rfl (by decide) v n (nus .u8 zs) hs hown ad bs.length cap (nus .u8 bs) hx (by rw [nus_length]; omega) ?_ (oneCell_nus _ _) (by unfold maxLen; omega) (by omega) hbase ?_
    · intro j u hj
      rcases h3 with h3 | ⟨b, off, e, hb, hcc⟩
      · rw [h3] at hj; simp at hj
      · cases e
        have hjl : j < (nus .u8 bs).length := (List.getElem?_eq_some_iff.1 hj).1
        rw [nus_length] at hjl
        rw [← hj]
        rw [Addr.add_lit]; exact hcc j hjl
    · intro v' w' hown' hgr _
      exact h v' w' (by rw [nus_append]; exact hown') hgr
end Go.Proofs.Ythionipmohbnhaa
namespace Go.Proofs.Ythionipmohbnhaa
open Go.RowKit
theorem subP {w : World} {b off len cap : Nat} {k : IntKind} {bs : List Nat} (h : Rd w (.slice (some ⟨b, off, none⟩) len cap) (nus k bs)) (j m : Nat) (hc : j + m ≤ len) :
    Rd w (.slice (if cap = j then some ⟨b, off, none⟩ else some ⟨b, off + j, none⟩) m (cap - j)) (nus k ((bs.drop j).take m)) := by
  by_cases he : cap = j
  · rw [if_pos he]
    have h1 := h
    obtain ⟨a', cap', e, h1, h2, h3⟩ := h1
    simp only [Value.slice.injEq] at e
    obtain ⟨-, rfl, rfl⟩ := e
    have hm : m = 0 := by omega
    subst hm
    exact ⟨some ⟨b, off, none⟩, cap - j, by simp [nus], by simp [nus], by omega, .inl (by simp [nus])⟩
  · rw [if_neg he]; exact h.sub j m hc
end Go.Proofs.Ythionipmohbnhaa
