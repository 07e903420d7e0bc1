/- Texts that the walks of this seat lean on, put together. -/
import Derived.Test.YthldpnifodbheaaTk
import Derived.Test.YthldpnifodbheaaTl
import Derived.Test.YthldpnifodbheaaM02
import Derived.Test.YthldpnifodbheaaM03
import Derived.Test.YthldpnifodbheaaM05
import Derived.Test.YthldpnifodbheaaM06
import Derived.Test.YthldpnifodbheaaM07
namespace Go.Proofs.Ythldpnifodbheaa
open Go.RowKit
def kS (u : Nat) : List Nat := [10, u / 65536 % 256, u / 256 % 256, u % 256]
def kD : List Nat := [192, 168, 0, 1]
def kcells (p : Nat) (S D : Array Value) (sp dp : Nat) : Array Value := (Value.int .u8 (p : Int) :: (S.toList ++ (D.toList ++ [.int .u16 (sp : Int), .int .u16 (dp : Int)]))).toArray
set_option maxRecDepth 100000 in
theorem k_bytes (u : Nat) (h : u < 1073741824) : IntKind.u32.wrap (u : Int) = (u : Int) ∧ IntKind.u8.wrap ((u : Int) / 65536) = ((u / 65536 % 256 : Nat) : Int) ∧ IntKind.u8.wrap ((u : Int) / 256) = ((u / 256 % 256 : Nat) : Int) ∧ IntKind.u8.wrap (u : Int) = ((u % 256 : Nat) : Int) ∧
    IntKind.u16.wrap (1000 + (u : Int) % 50000) = ((1000 + u % 50000 : Nat) : Int) := by
  refine ⟨?_, ?_, ?_, ?_, ?_⟩
  · rw [IntKind.wrap_u32]; omega
  · rw [IntKind.wrap_u8]; omega
  · rw [IntKind.wrap_u8]; omega
  · rw [IntKind.wrap_u8]; omega
  · rw [IntKind.wrap_u16]; omega
set_option maxRecDepth 100000 in
theorem i42 : (Try.prog.info? 42).map (·.size) = some 37 := by kernel_rfl
set_option maxRecDepth 100000 in
theorem kcells_size (p : Nat) (S D : Array Value) (sp dp : Nat) (hS : S.size = 17) (hD : D.size = 17) : (kcells p S D sp dp).size = 37 := by
  simp [kcells, hS, hD]
set_option maxRecDepth 100000 in
theorem kcells_all (p : Nat) (S D : Array Value) (sp dp : Nat) (hS : S.all (·.oneCell') = true) (hD : D.all (·.oneCell') = true) : (kcells p S D sp dp).all (·.oneCell') = true := by
  rw [Array.all_eq_true_iff_forall_mem] at *
  intro x hx
  simp only [kcells, List.mem_toArray, List.mem_cons, List.mem_append, Array.mem_toList_iff, List.not_mem_nil, or_false] at hx
  rcases hx with rfl | h | h | rfl | rfl
  · rfl
  · exact hS x h
  · exact hD x h
  · rfl
  · rfl
def z16 : List Nat := [0, 0, 0, 0, 0, 0, 0, 0, 0, 0, 0, 0, 0, 0, 0, 0]
set_option maxRecDepth 100000 in
theorem i16 : (Try.prog.info? 24).map (·.size) = some 16 := by kernel_rfl
set_option maxRecDepth 100000 in
theorem nus_all (zs : List Nat) : (nus .u8 zs).toArray.all (·.oneCell') = true := Array.all_eq_true_iff_forall_mem.2 fun x hx => oneCell_nus _ _ x (by simpa using hx)
set_option maxRecDepth 100000 in
theorem setL_size : ∀ (vs : List Value) (cs : Array Value) (o : Nat), (setL cs o vs).size = cs.size
  | [], _, _ => rfl
  | v :: r, cs, o => by rw [setL, setL_size r]; simp
set_option maxRecDepth 100000 in
theorem key_fin6 (u sp : Nat) (v : Bool) : setL (setL (((kcells 6 (cellsA false z16) (cellsA false z16) sp 80).setIfInBounds 1 (.bool v)).setIfInBounds 18 (.bool v)) 2 (nus .u8 (kS u ++ List.replicate 12 0)).toArray.toList) 19 (nus .u8 (kD ++ List.replicate 12 0)).toArray.toList = kcells 6 (cellsA v (kS u ++ List.replicate 12 0)) (cellsA v (kD ++ List.replicate 12 0)) sp 80 := by
  kernel_rfl
set_option maxRecDepth 100000 in
theorem key_fin17 (u sp : Nat) (v : Bool) : setL (setL ((((kcells 6 (cellsA false z16) (cellsA false z16) sp 80).setIfInBounds 0 (.int .u8 17)).setIfInBounds 1 (.bool v)).setIfInBounds 18 (.bool v)) 2 (nus .u8 (kS u ++ List.replicate 12 0)).toArray.toList) 19 (nus .u8 (kD ++ List.replicate 12 0)).toArray.toList = kcells 17 (cellsA v (kS u ++ List.replicate 12 0)) (cellsA v (kD ++ List.replicate 12 0)) sp 80 := by
  kernel_rfl
set_option maxRecDepth 100000 in
set_option maxHeartbeats 2000000 in
theorem key_tcp (n : Int) (v : Bool) (u sp : Nat) (w : World) (HU : Hid (n % 1073741824 = (u : Int))) (hul : u < 1073741824) (hsp : sp = 1000 + u % 50000) :
    Calls Try.prog 12 #[.int .i64 n, .bool v, .bool false] w fun e w' => e = .returned (.agg (kcells 6 (cellsA v (kS u ++ List.replicate 12 0)) (cellsA v (kD ++ List.replicate 12 0)) sp 80)) ∧ Below w.heap.size w w' := by
  obtain ⟨b0, b1, b2, b3, b4⟩ := k_bytes u hul
  rw [← hsp] at b4
  have Z42 := lh (i42.trans (congrArg some (kcells_size 6 (cellsA false z16) (cellsA false z16) sp 80 rfl rfl).symm))
  have ZZ : Hid ((kcells 6 (cellsA false z16) (cellsA false z16) sp 80).size = Array.size (ZcK : Array Value)) := kcells_size 6 (cellsA false z16) (cellsA false z16) sp 80 rfl rfl
  have AA := lh (kcells_all 6 (cellsA false z16) (cellsA false z16) sp 80 (cellsA_all _ _) (cellsA_all _ _))
  have NR := lh ((Blk.new w 42 ZcK).alloc (.cells ZcK 42))
  have NG := Blk.new (w.alloc (.cells ZcK 42)) 42 ZcK
  rw [World.size_alloc] at NG
  have NG := lh NG
  have K1 := lh (((Below.refl w.heap.size w).alloc (Nat.le_refl _) (.cells ZcK 42)).alloc (by simp) (.cells ZcK 42))
  obtain ⟨kc, hkc⟩ : ∃ kc, kc = kcells 6 (cellsA false z16) (cellsA false z16) sp 80 := ⟨_, rfl⟩
  have hlit : (.agg #[.int .u8 6, .bool false, .int .u8 0, .int .u8 0, .int .u8 0, .int .u8 0, .int .u8 0, .int .u8 0, .int .u8 0, .int .u8 0, .int .u8 0, .int .u8 0, .int .u8 0, .int .u8 0, .int .u8 0, .int .u8 0, .int .u8 0, .int .u8 0, .bool false, .int .u8 0, .int .u8 0, .int .u8 0, .int .u8 0, .int .u8 0, .int .u8 0, .int .u8 0, .int .u8 0, .int .u8 0, .int .u8 0, .int .u8 0, .int .u8 0, .int .u8 0, .int .u8 0, .int .u8 0, .int .u8 0, .int .u16 (1000 + (u : Int) % 50000), .int .u16 80] : Value) = .agg kc := by rw [hkc, hsp]; rfl
  rw [← hkc] at Z42 ZZ AA
  have k0 : kc[0]? = some (.int .u8 6) := by rw [hkc]; rfl
  have k1 : kc[1]? = some (.bool false) := by rw [hkc]; rfl
  have k18 : kc[18]? = some (.bool false) := by rw [hkc]; rfl
  have HL := lh hlit
  have HK := lh hkc
  clear hlit hkc
  go_enter Try.func12, Try.ntmps12
  go_wp2_with fail
  refine (round_any n 1073741824 _ (by omega) (by omega)).mono ?_
  rintro e w' ⟨rfl, rfl⟩
  rw [HU.out]
  go_wp2_with (((with_reducible refine wpList_blk_store (op := ⟨none, .store 42 (.tmp 8) (.tmp 16), _, _, _, _⟩) ?sg4 42 (.tmp 8) (.tmp 16) ?so4 ((w.heap.size + 1)) kc ?sx4 ?sy4 NG.out ZZ.out Z42.out AA.out ?_); (case sg4 => rfl); (case so4 => rfl); (case sx4 => rfl); (case sy4 => exact HL.out)))
  intro W2 hA hF hB
  have K2 := lh (K1.out.trans (hB _ (Nat.le_succ _)))
  have R2 := lh (show Blk W2 w.heap.size 42 ZcK from (hF _ (by omega)).trans NR.out)
  have A3 := lh ((hA.set_ 1 (.bool v)).set_ 18 (.bool v))
  have c0 := (hA.cell 0).trans k0
  have c1 := (hA.cell 1).trans k1
  have c18 := (hA.cell 18).trans k18
  have f0 := hA.frozen 0
  have f1 := hA.frozen 1
  have f18 := hA.frozen 18
  have hsz : kc.size = 37 := by rw [HK.out]; exact kcells_size _ _ _ _ _ rfl rfl
  have s3 : ((kc.setIfInBounds 1 (.bool v)).setIfInBounds 18 (.bool v)).size = 37 := by simp [hsz]
  clear hA hF hB K1 NR NG k0 k1 k18 hsz
  have HI1 : Hid ((Try.prog.info? 24).map (·.size) = some (nus .u8 (kS u ++ List.replicate 12 0)).toArray.size) := i16
  have HI2 : Hid ((Try.prog.info? 24).map (·.size) = some (nus .u8 (kD ++ List.replicate 12 0)).toArray.size) := i16
  have v1 : (nus .u8 (kS u ++ List.replicate 12 0)).toArray.size = 16 := rfl
  have v2 : (nus .u8 (kD ++ List.replicate 12 0)).toArray.size = 16 := rfl
  have HS1 := lh (show 2 + (nus .u8 (kS u ++ List.replicate 12 0)).toArray.size ≤ ((kc.setIfInBounds 1 (.bool v)).setIfInBounds 18 (.bool v)).size by rw [s3, v1]; omega)
  go_wp2_with (((with_reducible refine wpList_part_store (op := ⟨none, .store 24 (.tmp 35) (.tmp 33), _, _, _, _⟩) ?pg3 24 (.tmp 35) (.tmp 33) ?po3 2 (nus .u8 (kS u ++ List.replicate 12 0)).toArray ?px3 ?py3 A3.out HS1.out HI1.out (nus_all _) ?_); (case pg3 => rfl); (case po3 => rfl); (case px3 => rfl); (case py3 => rfl)))
  intro W4 hA hF hB
  have K4 := lh (((K2.out.setCell (p := ⟨w.heap.size + 1, 1, none⟩) (Nat.le_succ _) (.bool v)).setCell (p := ⟨w.heap.size + 1, 18, none⟩) (Nat.le_succ _) (.bool v)).trans (hB _ (Nat.le_succ _)))
  have R4 := lh (show Blk W4 w.heap.size 42 ZcK from (hF _ (by omega)).trans (((R2.out.far (p := ⟨w.heap.size + 1, 1, none⟩) (by simp) (.bool v)).far (p := ⟨w.heap.size + 1, 18, none⟩) (by simp) (.bool v))))
  have A4 := lh hA
  have s4 : (setL ((kc.setIfInBounds 1 (.bool v)).setIfInBounds 18 (.bool v)) 2 (nus .u8 (kS u ++ List.replicate 12 0)).toArray.toList).size = 37 := by rw [setL_size]; exact s3
  have HS2 := lh (show 19 + (nus .u8 (kD ++ List.replicate 12 0)).toArray.size ≤ (setL ((kc.setIfInBounds 1 (.bool v)).setIfInBounds 18 (.bool v)) 2 (nus .u8 (kS u ++ List.replicate 12 0)).toArray.toList).size by rw [s4, v2]; omega)
  clear hA hF hB A3 R2 K2 c0 c1 c18 f0 f1 f18 v1 v2 s3 s4 HS1 HI1
  go_wp2_with (((with_reducible refine wpList_part_store (op := ⟨none, .store 24 (.tmp 38) (.tmp 36), _, _, _, _⟩) ?pg4 24 (.tmp 38) (.tmp 36) ?po4 19 (nus .u8 (kD ++ List.replicate 12 0)).toArray ?px4 ?py4 A4.out HS2.out HI2.out (nus_all _) ?_); (case pg4 => rfl); (case po4 => rfl); (case px4 => rfl); (case py4 => rfl)))
  intro W5 hA hF hB
  have K5 := lh (K4.out.trans (hB _ (Nat.le_succ _)))
  have R5 := lh (show Blk W5 w.heap.size 42 ZcK from (hF _ (by omega)).trans R4.out)
  rw [HK.out] at hA
  have hA5 : Blk W5 (w.heap.size + 1) 42 (kcells 6 (cellsA v (kS u ++ List.replicate 12 0)) (cellsA v (kD ++ List.replicate 12 0)) sp 80) := by
    rw [← key_fin6 u sp v]
    exact hA
  have A5 := lh hA5
  have y1 := kcells_size 6 (cellsA v (kS u ++ List.replicate 12 0)) (cellsA v (kD ++ List.replicate 12 0)) sp 80 rfl rfl
  have y2 := kcells_all 6 (cellsA v (kS u ++ List.replicate 12 0)) (cellsA v (kD ++ List.replicate 12 0)) sp 80 (cellsA_all _ _) (cellsA_all _ _)
  have E9 : Hid (_ = _) := show kcells 6 (cellsA v (kS u ++ List.replicate 12 0)) (cellsA v (kD ++ List.replicate 12 0)) sp 80 = _ from rfl
  clear hA hF hB hA5 A4 R4 K4 HS2 HI2
  generalize hfin : kcells 6 (cellsA v (kS u ++ List.replicate 12 0)) (cellsA v (kD ++ List.replicate 12 0)) sp 80 = fin at A5 y1 y2 E9
  have HFIN := lh hfin
  have Z5 := lh (i42.trans (congrArg some y1.symm))
  have Z6 : Hid (fin.size = Array.size (ZcK : Array Value)) := y1
  have AL := lh y2
  clear hfin y1 y2 E9
  go_wp2_with (first | ((with_reducible refine wpList_blk_load (op := ⟨some 39, .load 42 (.tmp 8), _, _, _, _⟩) ?lg5 42 (.tmp 8) ?lo5 ((w.heap.size + 1)) ?lx5 _ A5.out Try.underlying42 ?ld5 Z5.out ?_); (case lg5 => rfl); (case lo5 => rfl); (case lx5 => rfl); (case ld5 => rfl)) | ((with_reducible refine wpList_blk_store (op := ⟨none, .store 42 (.tmp 6) (.tmp 39), _, _, _, _⟩) ?sg6 42 (.tmp 6) (.tmp 39) ?so6 (w.heap.size) fin ?sx6 ?sy6 R5.out Z6.out Z5.out AL.out ?_); (case sg6 => rfl); (case so6 => rfl); (case sx6 => rfl); (case sy6 => rfl)))
  intro W6 hA hF hB
  have K6 := lh (K5.out.trans (hB _ (Nat.le_refl _)))
  have HA := lh hA
  clear hA hF hB
  go_wp2
  have hrun := run_blk_load (P := Try.prog) 42 w.heap.size _ HA.out Try.underlying42 rfl Z5.out
  exact bodyPost_ret (results_cell 6 42 w.heap.size _ Try.results12 rfl hrun) rfl ⟨by rw [HFIN.out], K6.out⟩
set_option maxRecDepth 100000 in
set_option maxHeartbeats 2000000 in
theorem key_udp (n : Int) (v : Bool) (u sp : Nat) (w : World) (HU : Hid (n % 1073741824 = (u : Int))) (hul : u < 1073741824) (hsp : sp = 1000 + u % 50000) :
    Calls Try.prog 12 #[.int .i64 n, .bool v, .bool true] w fun e w' => e = .returned (.agg (kcells 17 (cellsA v (kS u ++ List.replicate 12 0)) (cellsA v (kD ++ List.replicate 12 0)) sp 80)) ∧ Below w.heap.size w w' := by
  obtain ⟨b0, b1, b2, b3, b4⟩ := k_bytes u hul
  rw [← hsp] at b4
  have Z42 := lh (i42.trans (congrArg some (kcells_size 6 (cellsA false z16) (cellsA false z16) sp 80 rfl rfl).symm))
  have ZZ : Hid ((kcells 6 (cellsA false z16) (cellsA false z16) sp 80).size = Array.size (ZcK : Array Value)) := kcells_size 6 (cellsA false z16) (cellsA false z16) sp 80 rfl rfl
  have AA := lh (kcells_all 6 (cellsA false z16) (cellsA false z16) sp 80 (cellsA_all _ _) (cellsA_all _ _))
  have NR := lh ((Blk.new w 42 ZcK).alloc (.cells ZcK 42))
  have NG := Blk.new (w.alloc (.cells ZcK 42)) 42 ZcK
  rw [World.size_alloc] at NG
  have NG := lh NG
  have K1 := lh (((Below.refl w.heap.size w).alloc (Nat.le_refl _) (.cells ZcK 42)).alloc (by simp) (.cells ZcK 42))
  obtain ⟨kc, hkc⟩ : ∃ kc, kc = kcells 6 (cellsA false z16) (cellsA false z16) sp 80 := ⟨_, rfl⟩
  have hlit : (.agg #[.int .u8 6, .bool false, .int .u8 0, .int .u8 0, .int .u8 0, .int .u8 0, .int .u8 0, .int .u8 0, .int .u8 0, .int .u8 0, .int .u8 0, .int .u8 0, .int .u8 0, .int .u8 0, .int .u8 0, .int .u8 0, .int .u8 0, .int .u8 0, .bool false, .int .u8 0, .int .u8 0, .int .u8 0, .int .u8 0, .int .u8 0, .int .u8 0, .int .u8 0, .int .u8 0, .int .u8 0, .int .u8 0, .int .u8 0, .int .u8 0, .int .u8 0, .int .u8 0, .int .u8 0, .int .u8 0, .int .u16 (1000 + (u : Int) % 50000), .int .u16 80] : Value) = .agg kc := by rw [hkc, hsp]; rfl
  rw [← hkc] at Z42 ZZ AA
  have k0 : kc[0]? = some (.int .u8 6) := by rw [hkc]; rfl
  have k1 : kc[1]? = some (.bool false) := by rw [hkc]; rfl
  have k18 : kc[18]? = some (.bool false) := by rw [hkc]; rfl
  have HL := lh hlit
  have HK := lh hkc
  clear hlit hkc
  go_enter Try.func12, Try.ntmps12
  go_wp2_with fail
  refine (round_any n 1073741824 _ (by omega) (by omega)).mono ?_
  rintro e w' ⟨rfl, rfl⟩
  rw [HU.out]
  go_wp2_with (((with_reducible refine wpList_blk_store (op := ⟨none, .store 42 (.tmp 8) (.tmp 16), _, _, _, _⟩) ?sg1 42 (.tmp 8) (.tmp 16) ?so1 ((w.heap.size + 1)) kc ?sx1 ?sy1 NG.out ZZ.out Z42.out AA.out ?_); (case sg1 => rfl); (case so1 => rfl); (case sx1 => rfl); (case sy1 => exact HL.out)))
  intro W2 hA hF hB
  have K2 := lh (K1.out.trans (hB _ (Nat.le_succ _)))
  have R2 := lh (show Blk W2 w.heap.size 42 ZcK from (hF _ (by omega)).trans NR.out)
  have A3 := lh (((hA.set_ 0 (.int .u8 17)).set_ 1 (.bool v)).set_ 18 (.bool v))
  have c0 := (hA.cell 0).trans k0
  have c1 := (hA.cell 1).trans k1
  have c18 := (hA.cell 18).trans k18
  have f0 := hA.frozen 0
  have f1 := hA.frozen 1
  have f18 := hA.frozen 18
  have hsz : kc.size = 37 := by rw [HK.out]; exact kcells_size _ _ _ _ _ rfl rfl
  have s3 : (((kc.setIfInBounds 0 (.int .u8 17)).setIfInBounds 1 (.bool v)).setIfInBounds 18 (.bool v)).size = 37 := by simp [hsz]
  clear hA hF hB K1 NR NG k0 k1 k18 hsz
  have HI1 : Hid ((Try.prog.info? 24).map (·.size) = some (nus .u8 (kS u ++ List.replicate 12 0)).toArray.size) := i16
  have HI2 : Hid ((Try.prog.info? 24).map (·.size) = some (nus .u8 (kD ++ List.replicate 12 0)).toArray.size) := i16
  have v1 : (nus .u8 (kS u ++ List.replicate 12 0)).toArray.size = 16 := rfl
  have v2 : (nus .u8 (kD ++ List.replicate 12 0)).toArray.size = 16 := rfl
  have HS1 := lh (show 2 + (nus .u8 (kS u ++ List.replicate 12 0)).toArray.size ≤ (((kc.setIfInBounds 0 (.int .u8 17)).setIfInBounds 1 (.bool v)).setIfInBounds 18 (.bool v)).size by rw [s3, v1]; omega)
  go_wp2_with (((with_reducible refine wpList_part_store (op := ⟨none, .store 24 (.tmp 35) (.tmp 33), _, _, _, _⟩) ?pg1 24 (.tmp 35) (.tmp 33) ?po1 2 (nus .u8 (kS u ++ List.replicate 12 0)).toArray ?px1 ?py1 A3.out HS1.out HI1.out (nus_all _) ?_); (case pg1 => rfl); (case po1 => rfl); (case px1 => rfl); (case py1 => rfl)))
  intro W4 hA hF hB
  have K4 := lh ((((K2.out.setCell (p := ⟨w.heap.size + 1, 0, none⟩) (Nat.le_succ _) (.int .u8 17)).setCell (p := ⟨w.heap.size + 1, 1, none⟩) (Nat.le_succ _) (.bool v)).setCell (p := ⟨w.heap.size + 1, 18, none⟩) (Nat.le_succ _) (.bool v)).trans (hB _ (Nat.le_succ _)))
  have R4 := lh (show Blk W4 w.heap.size 42 ZcK from (hF _ (by omega)).trans ((((R2.out.far (p := ⟨w.heap.size + 1, 0, none⟩) (by simp) (.int .u8 17)).far (p := ⟨w.heap.size + 1, 1, none⟩) (by simp) (.bool v)).far (p := ⟨w.heap.size + 1, 18, none⟩) (by simp) (.bool v))))
  have A4 := lh hA
  have s4 : (setL (((kc.setIfInBounds 0 (.int .u8 17)).setIfInBounds 1 (.bool v)).setIfInBounds 18 (.bool v)) 2 (nus .u8 (kS u ++ List.replicate 12 0)).toArray.toList).size = 37 := by rw [setL_size]; exact s3
  have HS2 := lh (show 19 + (nus .u8 (kD ++ List.replicate 12 0)).toArray.size ≤ (setL (((kc.setIfInBounds 0 (.int .u8 17)).setIfInBounds 1 (.bool v)).setIfInBounds 18 (.bool v)) 2 (nus .u8 (kS u ++ List.replicate 12 0)).toArray.toList).size by rw [s4, v2]; omega)
  clear hA hF hB A3 R2 K2 c0 c1 c18 f0 f1 f18 v1 v2 s3 s4 HS1 HI1
  go_wp2_with (((with_reducible refine wpList_part_store (op := ⟨none, .store 24 (.tmp 38) (.tmp 36), _, _, _, _⟩) ?pg2 24 (.tmp 38) (.tmp 36) ?po2 19 (nus .u8 (kD ++ List.replicate 12 0)).toArray ?px2 ?py2 A4.out HS2.out HI2.out (nus_all _) ?_); (case pg2 => rfl); (case po2 => rfl); (case px2 => rfl); (case py2 => rfl)))
  intro W5 hA hF hB
  have K5 := lh (K4.out.trans (hB _ (Nat.le_succ _)))
  have R5 := lh (show Blk W5 w.heap.size 42 ZcK from (hF _ (by omega)).trans R4.out)
  rw [HK.out] at hA
  have hA5 : Blk W5 (w.heap.size + 1) 42 (kcells 17 (cellsA v (kS u ++ List.replicate 12 0)) (cellsA v (kD ++ List.replicate 12 0)) sp 80) := by
    rw [← key_fin17 u sp v]
    exact hA
  have A5 := lh hA5
  have y1 := kcells_size 17 (cellsA v (kS u ++ List.replicate 12 0)) (cellsA v (kD ++ List.replicate 12 0)) sp 80 rfl rfl
  have y2 := kcells_all 17 (cellsA v (kS u ++ List.replicate 12 0)) (cellsA v (kD ++ List.replicate 12 0)) sp 80 (cellsA_all _ _) (cellsA_all _ _)
  have E9 : Hid (_ = _) := show kcells 17 (cellsA v (kS u ++ List.replicate 12 0)) (cellsA v (kD ++ List.replicate 12 0)) sp 80 = _ from rfl
  clear hA hF hB hA5 A4 R4 K4 HS2 HI2
  generalize hfin : kcells 17 (cellsA v (kS u ++ List.replicate 12 0)) (cellsA v (kD ++ List.replicate 12 0)) sp 80 = fin at A5 y1 y2 E9
  have HFIN := lh hfin
  have Z5 := lh (i42.trans (congrArg some y1.symm))
  have Z6 : Hid (fin.size = Array.size (ZcK : Array Value)) := y1
  have AL := lh y2
  clear hfin y1 y2 E9
  go_wp2_with (first | ((with_reducible refine wpList_blk_load (op := ⟨some 39, .load 42 (.tmp 8), _, _, _, _⟩) ?lg2 42 (.tmp 8) ?lo2 ((w.heap.size + 1)) ?lx2 _ A5.out Try.underlying42 ?ld2 Z5.out ?_); (case lg2 => rfl); (case lo2 => rfl); (case lx2 => rfl); (case ld2 => rfl)) | ((with_reducible refine wpList_blk_store (op := ⟨none, .store 42 (.tmp 6) (.tmp 39), _, _, _, _⟩) ?sg3 42 (.tmp 6) (.tmp 39) ?so3 (w.heap.size) fin ?sx3 ?sy3 R5.out Z6.out Z5.out AL.out ?_); (case sg3 => rfl); (case so3 => rfl); (case sx3 => rfl); (case sy3 => rfl)))
  intro W6 hA hF hB
  have K6 := lh (K5.out.trans (hB _ (Nat.le_refl _)))
  have HA := lh hA
  clear hA hF hB
  go_wp2
  have hrun := run_blk_load (P := Try.prog) 42 w.heap.size _ HA.out Try.underlying42 rfl Z5.out
  exact bodyPost_ret (results_cell 6 42 w.heap.size _ Try.results12 rfl hrun) rfl ⟨by rw [HFIN.out], K6.out⟩
set_option maxRecDepth 100000 in
theorem key_any (n : Int) (v udp : Bool) (w : World) :
    Calls Try.prog 12 #[.int .i64 n, .bool v, .bool udp] w fun e w' => e = .returned (.agg (kcells (if udp then 17 else 6) (cellsA v (kS (n % 1073741824).toNat ++ List.replicate 12 0)) (cellsA v (kD ++ List.replicate 12 0)) (1000 + (n % 1073741824).toNat % 50000) 80)) ∧ Below w.heap.size w w' := by
  have hu : n % 1073741824 = (((n % 1073741824).toNat : Nat) : Int) := by omega
  have hl : (n % 1073741824).toNat < 1073741824 := by omega
  cases udp with
  | true => exact key_udp n v _ _ w hu hl rfl
  | false => exact key_tcp n v _ _ w hu hl rfl
end Go.Proofs.Ythldpnifodbheaa
