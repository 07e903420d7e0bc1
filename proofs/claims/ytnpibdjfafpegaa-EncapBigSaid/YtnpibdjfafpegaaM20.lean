/- Texts that the walks of this seat lean on, put together. -/
import Derived.Test.YtnpibdjfafpegaaTk
import Derived.Test.YtnpibdjfafpegaaM02
import Derived.Test.YtnpibdjfafpegaaM07
import Derived.Test.YtnpibdjfafpegaaM09
import Derived.Test.YtnpibdjfafpegaaM10
import Derived.Test.YtnpibdjfafpegaaM11
import Derived.Test.YtnpibdjfafpegaaM13
import Derived.Test.YtnpibdjfafpegaaM14
import Derived.Test.YtnpibdjfafpegaaM19
namespace Go.Proofs.Ytnpibdjfafpegaa
open Go.RowKit
def kS (u : Nat) : List Nat := [10, u / 65536 % 256, u / 256 % 256, u % 256]
def kD : List Nat := [192, 168, 0, 1]
def kcells (p : Nat) (S D : Array Value) (sp dp : Nat) : Array Value := (Value.int .u8 (p : Int) :: (S.toList ++ (D.toList ++ [.int .u16 (sp : Int), .int .u16 (dp : Int)]))).toArray
theorem k_bytes (u : Nat) (h : u < 1073741824) : IntKind.u32.wrap (u : Int) = (u : Int) ∧ IntKind.u8.wrap ((u : Int) / 65536) = ((u / 65536 % 256 : Nat) : Int) ∧ IntKind.u8.wrap ((u : Int) / 256) = ((u / 256 % 256 : Nat) : Int) ∧ IntKind.u8.wrap (u : Int) = ((u % 256 : Nat) : Int) ∧
    IntKind.u16.wrap (1000 + (u : Int) % 50000) = ((1000 + u % 50000 : Nat) : Int) := by
  refine ⟨?_, ?_, ?_, ?_, ?_⟩
  · rw [IntKind.wrap_u32]; omega
  · rw [IntKind.wrap_u8]; omega
  · rw [IntKind.wrap_u8]; omega
  · rw [IntKind.wrap_u8]; omega
  · rw [IntKind.wrap_u16]; omega
theorem i42 : (Try.prog.info? 30).map (·.size) = some 37 := by kernel_rfl
theorem kcells_size (p : Nat) (S D : Array Value) (sp dp : Nat) (hS : S.size = 17) (hD : D.size = 17) : (kcells p S D sp dp).size = 37 := by
  simp [kcells, hS, hD]
theorem kcells_all (p : Nat) (S D : Array Value) (sp dp : Nat) (hS : S.all (·.oneCell') = true) (hD : D.all (·.oneCell') = true) : (kcells p S D sp dp).all (·.oneCell') = true := by
  rw [Array.all_eq_true_iff_forall_mem] at *
  intro x hx
  simp only [kcells, List.mem_toArray, List.mem_cons, List.mem_append, Array.mem_toList_iff, List.not_mem_nil, or_false] at hx
  rcases hx with rfl | h | h | rfl | rfl
  · rfl
  · exact hS x h
  · exact hD x h
  · rfl
  · rfl
def z16 : List Nat := [0, 0, 0, 0, 0, 0, 0, 0, 0, 0, 0, 0, 0, 0, 0, 0]
theorem i16 : (Try.prog.info? 25).map (·.size) = some 16 := by kernel_rfl
theorem nus_all (zs : List Nat) : (nus .u8 zs).toArray.all (·.oneCell') = true := Array.all_eq_true_iff_forall_mem.2 fun x hx => oneCell_nus _ _ x (by simpa using hx)
theorem setL_size : ∀ (vs : List Value) (cs : Array Value) (o : Nat), (setL cs o vs).size = cs.size
  | [], _, _ => rfl
  | v :: r, cs, o => by rw [setL, setL_size r]; simp
theorem key_fin6 (u sp : Nat) (v : Bool) : setL (setL (((kcells 6 (cellsA false z16) (cellsA false z16) sp 80).setIfInBounds 1 (.bool v)).setIfInBounds 18 (.bool v)) 2 (nus .u8 (kS u ++ List.replicate 12 0)).toArray.toList) 19 (nus .u8 (kD ++ List.replicate 12 0)).toArray.toList = kcells 6 (cellsA v (kS u ++ List.replicate 12 0)) (cellsA v (kD ++ List.replicate 12 0)) sp 80 := by
  kernel_rfl
theorem key_fin17 (u sp : Nat) (v : Bool) : setL (setL ((((kcells 6 (cellsA false z16) (cellsA false z16) sp 80).setIfInBounds 0 (.int .u8 17)).setIfInBounds 1 (.bool v)).setIfInBounds 18 (.bool v)) 2 (nus .u8 (kS u ++ List.replicate 12 0)).toArray.toList) 19 (nus .u8 (kD ++ List.replicate 12 0)).toArray.toList = kcells 17 (cellsA v (kS u ++ List.replicate 12 0)) (cellsA v (kD ++ List.replicate 12 0)) sp 80 := by
  kernel_rfl
set_option maxRecDepth 100000 in
set_option maxHeartbeats 2000000 in
theorem key_tcp (n : Int) (v : Bool) (u sp : Nat) (w : World) (HU : Hid (n % 1073741824 = (u : Int))) (hul : u < 1073741824) (hsp : sp = 1000 + u % 50000) :
    Calls Try.prog 9 #[.int .i64 n, .bool v, .bool false] w fun e w' => e = .returned (.agg (kcells 6 (cellsA v (kS u ++ List.replicate 12 0)) (cellsA v (kD ++ List.replicate 12 0)) sp 80)) ∧ Below w.heap.size w w' := by
  obtain ⟨b0, b1, b2, b3, b4⟩ := k_bytes u hul
  rw [← hsp] at b4
  have Z42 := Lib.hid (i42.trans (congrArg some (kcells_size 6 (cellsA false z16) (cellsA false z16) sp 80 rfl rfl).symm))
  have ZZ : Hid ((kcells 6 (cellsA false z16) (cellsA false z16) sp 80).size = Array.size (ZcK : Array Value)) := kcells_size 6 (cellsA false z16) (cellsA false z16) sp 80 rfl rfl
  have AA := Lib.hid (kcells_all 6 (cellsA false z16) (cellsA false z16) sp 80 (cellsA_all _ _) (cellsA_all _ _))
  have NR := Lib.hid ((Blk.new w 30 ZcK).alloc (.cells ZcK 30))
  have NG := Blk.new (w.alloc (.cells ZcK 30)) 30 ZcK
  rw [World.size_alloc] at NG
  have NG := Lib.hid NG
  have K1 := Lib.hid (((Below.refl w.heap.size w).alloc (Nat.le_refl _) (.cells ZcK 30)).alloc (by simp) (.cells ZcK 30))
  obtain ⟨kc, hkc⟩ : ∃ kc, kc = kcells 6 (cellsA false z16) (cellsA false z16) sp 80 := ⟨_, rfl⟩
  have hlit : (.agg #[.int .u8 6, .bool false, .int .u8 0, .int .u8 0, .int .u8 0, .int .u8 0, .int .u8 0, .int .u8 0, .int .u8 0, .int .u8 0, .int .u8 0, .int .u8 0, .int .u8 0, .int .u8 0, .int .u8 0, .int .u8 0, .int .u8 0, .int .u8 0, .bool false, .int .u8 0, .int .u8 0, .int .u8 0, .int .u8 0, .int .u8 0, .int .u8 0, .int .u8 0, .int .u8 0, .int .u8 0, .int .u8 0, .int .u8 0, .int .u8 0, .int .u8 0, .int .u8 0, .int .u8 0, .int .u8 0, .int .u16 (1000 + (u : Int) % 50000), .int .u16 80] : Value) = .agg kc := by rw [hkc, hsp]; rfl
  rw [← hkc] at Z42 ZZ AA
  have k0 : kc[0]? = some (.int .u8 6) := by rw [hkc]; rfl
  have k1 : kc[1]? = some (.bool false) := by rw [hkc]; rfl
  have k18 : kc[18]? = some (.bool false) := by rw [hkc]; rfl
  have HL := Lib.hid hlit
  have HK := Lib.hid hkc
  clear hlit hkc
  go_enter Try.func9, Try.ntmps9
  go_wp2_with fail
  refine (round_any n 1073741824 _ (by omega) (by omega)).mono ?_
  rintro e w' ⟨rfl, rfl⟩
  rw [HU.out]
  go_wp2_with (((with_reducible refine wpList_blk_store (op := ⟨none, .store 30 (.tmp 8) (.tmp 16), _, _, _, _⟩) ?sg4 30 (.tmp 8) (.tmp 16) ?so4 ((w.heap.size + 1)) kc ?sx4 ?sy4 NG.out ZZ.out Z42.out AA.out ?_); (case sg4 => rfl); (case so4 => rfl); (case sx4 => rfl); (case sy4 => exact HL.out)))
  intro W2 hA hF hB
  have K2 := Lib.hid (K1.out.trans (hB _ (Nat.le_succ _)))
  have R2 := Lib.hid (show Blk W2 w.heap.size 30 ZcK from (hF _ (by omega)).trans NR.out)
  have A3 := Lib.hid ((hA.set_ 1 (.bool v)).set_ 18 (.bool v))
  have c0 := (hA.cell 0).trans k0
  have c1 := (hA.cell 1).trans k1
  have c18 := (hA.cell 18).trans k18
  have f0 := hA.frozen 0
  have f1 := hA.frozen 1
  have f18 := hA.frozen 18
  have hsz : kc.size = 37 := by rw [HK.out]; exact kcells_size _ _ _ _ _ rfl rfl
  have s3 : ((kc.setIfInBounds 1 (.bool v)).setIfInBounds 18 (.bool v)).size = 37 := by simp [hsz]
  clear hA hF hB K1 NR NG k0 k1 k18 hsz
  have HI1 : Hid ((Try.prog.info? 25).map (·.size) = some (nus .u8 (kS u ++ List.replicate 12 0)).toArray.size) := i16
  have HI2 : Hid ((Try.prog.info? 25).map (·.size) = some (nus .u8 (kD ++ List.replicate 12 0)).toArray.size) := i16
  have v1 : (nus .u8 (kS u ++ List.replicate 12 0)).toArray.size = 16 := rfl
  have v2 : (nus .u8 (kD ++ List.replicate 12 0)).toArray.size = 16 := rfl
  have HS1 := Lib.hid (show 2 + (nus .u8 (kS u ++ List.replicate 12 0)).toArray.size ≤ ((kc.setIfInBounds 1 (.bool v)).setIfInBounds 18 (.bool v)).size by rw [s3, v1]; omega)
  go_wp2_with (((with_reducible refine wpList_part_store (op := ⟨none, .store 25 (.tmp 35) (.tmp 33), _, _, _, _⟩) ?pg3 25 (.tmp 35) (.tmp 33) ?po3 2 (nus .u8 (kS u ++ List.replicate 12 0)).toArray ?px3 ?py3 A3.out HS1.out HI1.out (nus_all _) ?_); (case pg3 => rfl); (case po3 => rfl); (case px3 => rfl); (case py3 => rfl)))
  intro W4 hA hF hB
  have K4 := Lib.hid (((K2.out.setCell (p := ⟨w.heap.size + 1, 1, none⟩) (Nat.le_succ _) (.bool v)).setCell (p := ⟨w.heap.size + 1, 18, none⟩) (Nat.le_succ _) (.bool v)).trans (hB _ (Nat.le_succ _)))
  have R4 := Lib.hid (show Blk W4 w.heap.size 30 ZcK from (hF _ (by omega)).trans (((R2.out.far (p := ⟨w.heap.size + 1, 1, none⟩) (by simp) (.bool v)).far (p := ⟨w.heap.size + 1, 18, none⟩) (by simp) (.bool v))))
  have A4 := Lib.hid hA
  have s4 : (setL ((kc.setIfInBounds 1 (.bool v)).setIfInBounds 18 (.bool v)) 2 (nus .u8 (kS u ++ List.replicate 12 0)).toArray.toList).size = 37 := by rw [setL_size]; exact s3
  have HS2 := Lib.hid (show 19 + (nus .u8 (kD ++ List.replicate 12 0)).toArray.size ≤ (setL ((kc.setIfInBounds 1 (.bool v)).setIfInBounds 18 (.bool v)) 2 (nus .u8 (kS u ++ List.replicate 12 0)).toArray.toList).size by rw [s4, v2]; omega)
  clear hA hF hB A3 R2 K2 c0 c1 c18 f0 f1 f18 v1 v2 s3 s4 HS1 HI1
  go_wp2_with (((with_reducible refine wpList_part_store (op := ⟨none, .store 25 (.tmp 38) (.tmp 36), _, _, _, _⟩) ?pg4 25 (.tmp 38) (.tmp 36) ?po4 19 (nus .u8 (kD ++ List.replicate 12 0)).toArray ?px4 ?py4 A4.out HS2.out HI2.out (nus_all _) ?_); (case pg4 => rfl); (case po4 => rfl); (case px4 => rfl); (case py4 => rfl)))
  intro W5 hA hF hB
  have K5 := Lib.hid (K4.out.trans (hB _ (Nat.le_succ _)))
  have R5 := Lib.hid (show Blk W5 w.heap.size 30 ZcK from (hF _ (by omega)).trans R4.out)
  rw [HK.out] at hA
  have hA5 : Blk W5 (w.heap.size + 1) 30 (kcells 6 (cellsA v (kS u ++ List.replicate 12 0)) (cellsA v (kD ++ List.replicate 12 0)) sp 80) := by
    rw [← key_fin6 u sp v]
    exact hA
  have A5 := Lib.hid hA5
  have y1 := kcells_size 6 (cellsA v (kS u ++ List.replicate 12 0)) (cellsA v (kD ++ List.replicate 12 0)) sp 80 rfl rfl
  have y2 := kcells_all 6 (cellsA v (kS u ++ List.replicate 12 0)) (cellsA v (kD ++ List.replicate 12 0)) sp 80 (cellsA_all _ _) (cellsA_all _ _)
  have E9 : Hid (_ = _) := show kcells 6 (cellsA v (kS u ++ List.replicate 12 0)) (cellsA v (kD ++ List.replicate 12 0)) sp 80 = _ from rfl
  clear hA hF hB hA5 A4 R4 K4 HS2 HI2
  generalize hfin : kcells 6 (cellsA v (kS u ++ List.replicate 12 0)) (cellsA v (kD ++ List.replicate 12 0)) sp 80 = fin at A5 y1 y2 E9
  have HFIN := Lib.hid hfin
  have Z5 := Lib.hid (i42.trans (congrArg some y1.symm))
  have Z6 : Hid (fin.size = Array.size (ZcK : Array Value)) := y1
  have AL := Lib.hid y2
  clear hfin y1 y2 E9
  go_wp2_with (first | ((with_reducible refine wpList_blk_load (op := ⟨some 39, .load 30 (.tmp 8), _, _, _, _⟩) ?lg5 30 (.tmp 8) ?lo5 ((w.heap.size + 1)) ?lx5 _ A5.out Try.underlying30 ?ld5 Z5.out ?_); (case lg5 => rfl); (case lo5 => rfl); (case lx5 => rfl); (case ld5 => rfl)) | ((with_reducible refine wpList_blk_store (op := ⟨none, .store 30 (.tmp 6) (.tmp 39), _, _, _, _⟩) ?sg6 30 (.tmp 6) (.tmp 39) ?so6 (w.heap.size) fin ?sx6 ?sy6 R5.out Z6.out Z5.out AL.out ?_); (case sg6 => rfl); (case so6 => rfl); (case sx6 => rfl); (case sy6 => rfl)))
  intro W6 hA hF hB
  have K6 := Lib.hid (K5.out.trans (hB _ (Nat.le_refl _)))
  have HA := Lib.hid hA
  clear hA hF hB
  go_wp2
  have hrun := run_blk_load (P := Try.prog) 30 w.heap.size _ HA.out Try.underlying30 rfl Z5.out
  exact bodyPost_ret (results_cell 6 30 w.heap.size _ Try.results9 rfl hrun) rfl ⟨by rw [HFIN.out], K6.out⟩
set_option maxRecDepth 100000 in
set_option maxHeartbeats 2000000 in
theorem key_udp (n : Int) (v : Bool) (u sp : Nat) (w : World) (HU : Hid (n % 1073741824 = (u : Int))) (hul : u < 1073741824) (hsp : sp = 1000 + u % 50000) :
    Calls Try.prog 9 #[.int .i64 n, .bool v, .bool true] w fun e w' => e = .returned (.agg (kcells 17 (cellsA v (kS u ++ List.replicate 12 0)) (cellsA v (kD ++ List.replicate 12 0)) sp 80)) ∧ Below w.heap.size w w' := by
  obtain ⟨b0, b1, b2, b3, b4⟩ := k_bytes u hul
  rw [← hsp] at b4
  have Z42 := Lib.hid (i42.trans (congrArg some (kcells_size 6 (cellsA false z16) (cellsA false z16) sp 80 rfl rfl).symm))
  have ZZ : Hid ((kcells 6 (cellsA false z16) (cellsA false z16) sp 80).size = Array.size (ZcK : Array Value)) := kcells_size 6 (cellsA false z16) (cellsA false z16) sp 80 rfl rfl
  have AA := Lib.hid (kcells_all 6 (cellsA false z16) (cellsA false z16) sp 80 (cellsA_all _ _) (cellsA_all _ _))
  have NR := Lib.hid ((Blk.new w 30 ZcK).alloc (.cells ZcK 30))
  have NG := Blk.new (w.alloc (.cells ZcK 30)) 30 ZcK
  rw [World.size_alloc] at NG
  have NG := Lib.hid NG
  have K1 := Lib.hid (((Below.refl w.heap.size w).alloc (Nat.le_refl _) (.cells ZcK 30)).alloc (by simp) (.cells ZcK 30))
  obtain ⟨kc, hkc⟩ : ∃ kc, kc = kcells 6 (cellsA false z16) (cellsA false z16) sp 80 := ⟨_, rfl⟩
  have hlit : (.agg #[.int .u8 6, .bool false, .int .u8 0, .int .u8 0, .int .u8 0, .int .u8 0, .int .u8 0, .int .u8 0, .int .u8 0, .int .u8 0, .int .u8 0, .int .u8 0, .int .u8 0, .int .u8 0, .int .u8 0, .int .u8 0, .int .u8 0, .int .u8 0, .bool false, .int .u8 0, .int .u8 0, .int .u8 0, .int .u8 0, .int .u8 0, .int .u8 0, .int .u8 0, .int .u8 0, .int .u8 0, .int .u8 0, .int .u8 0, .int .u8 0, .int .u8 0, .int .u8 0, .int .u8 0, .int .u8 0, .int .u16 (1000 + (u : Int) % 50000), .int .u16 80] : Value) = .agg kc := by rw [hkc, hsp]; rfl
  rw [← hkc] at Z42 ZZ AA
  have k0 : kc[0]? = some (.int .u8 6) := by rw [hkc]; rfl
  have k1 : kc[1]? = some (.bool false) := by rw [hkc]; rfl
  have k18 : kc[18]? = some (.bool false) := by rw [hkc]; rfl
  have HL := Lib.hid hlit
  have HK := Lib.hid hkc
  clear hlit hkc
  go_enter Try.func9, Try.ntmps9
  go_wp2_with fail
  refine (round_any n 1073741824 _ (by omega) (by omega)).mono ?_
  rintro e w' ⟨rfl, rfl⟩
  rw [HU.out]
  go_wp2_with (((with_reducible refine wpList_blk_store (op := ⟨none, .store 30 (.tmp 8) (.tmp 16), _, _, _, _⟩) ?sg1 30 (.tmp 8) (.tmp 16) ?so1 ((w.heap.size + 1)) kc ?sx1 ?sy1 NG.out ZZ.out Z42.out AA.out ?_); (case sg1 => rfl); (case so1 => rfl); (case sx1 => rfl); (case sy1 => exact HL.out)))
  intro W2 hA hF hB
  have K2 := Lib.hid (K1.out.trans (hB _ (Nat.le_succ _)))
  have R2 := Lib.hid (show Blk W2 w.heap.size 30 ZcK from (hF _ (by omega)).trans NR.out)
  have A3 := Lib.hid (((hA.set_ 0 (.int .u8 17)).set_ 1 (.bool v)).set_ 18 (.bool v))
  have c0 := (hA.cell 0).trans k0
  have c1 := (hA.cell 1).trans k1
  have c18 := (hA.cell 18).trans k18
  have f0 := hA.frozen 0
  have f1 := hA.frozen 1
  have f18 := hA.frozen 18
  have hsz : kc.size = 37 := by rw [HK.out]; exact kcells_size _ _ _ _ _ rfl rfl
  have s3 : (((kc.setIfInBounds 0 (.int .u8 17)).setIfInBounds 1 (.bool v)).setIfInBounds 18 (.bool v)).size = 37 := by simp [hsz]
  clear hA hF hB K1 NR NG k0 k1 k18 hsz
  have HI1 : Hid ((Try.prog.info? 25).map (·.size) = some (nus .u8 (kS u ++ List.replicate 12 0)).toArray.size) := i16
  have HI2 : Hid ((Try.prog.info? 25).map (·.size) = some (nus .u8 (kD ++ List.replicate 12 0)).toArray.size) := i16
  have v1 : (nus .u8 (kS u ++ List.replicate 12 0)).toArray.size = 16 := rfl
  have v2 : (nus .u8 (kD ++ List.replicate 12 0)).toArray.size = 16 := rfl
  have HS1 := Lib.hid (show 2 + (nus .u8 (kS u ++ List.replicate 12 0)).toArray.size ≤ (((kc.setIfInBounds 0 (.int .u8 17)).setIfInBounds 1 (.bool v)).setIfInBounds 18 (.bool v)).size by rw [s3, v1]; omega)
  go_wp2_with (((with_reducible refine wpList_part_store (op := ⟨none, .store 25 (.tmp 35) (.tmp 33), _, _, _, _⟩) ?pg1 25 (.tmp 35) (.tmp 33) ?po1 2 (nus .u8 (kS u ++ List.replicate 12 0)).toArray ?px1 ?py1 A3.out HS1.out HI1.out (nus_all _) ?_); (case pg1 => rfl); (case po1 => rfl); (case px1 => rfl); (case py1 => rfl)))
  intro W4 hA hF hB
  have K4 := Lib.hid ((((K2.out.setCell (p := ⟨w.heap.size + 1, 0, none⟩) (Nat.le_succ _) (.int .u8 17)).setCell (p := ⟨w.heap.size + 1, 1, none⟩) (Nat.le_succ _) (.bool v)).setCell (p := ⟨w.heap.size + 1, 18, none⟩) (Nat.le_succ _) (.bool v)).trans (hB _ (Nat.le_succ _)))
  have R4 := Lib.hid (show Blk W4 w.heap.size 30 ZcK from (hF _ (by omega)).trans ((((R2.out.far (p := ⟨w.heap.size + 1, 0, none⟩) (by simp) (.int .u8 17)).far (p := ⟨w.heap.size + 1, 1, none⟩) (by simp) (.bool v)).far (p := ⟨w.heap.size + 1, 18, none⟩) (by simp) (.bool v))))
  have A4 := Lib.hid hA
  have s4 : (setL (((kc.setIfInBounds 0 (.int .u8 17)).setIfInBounds 1 (.bool v)).setIfInBounds 18 (.bool v)) 2 (nus .u8 (kS u ++ List.replicate 12 0)).toArray.toList).size = 37 := by rw [setL_size]; exact s3
  have HS2 := Lib.hid (show 19 + (nus .u8 (kD ++ List.replicate 12 0)).toArray.size ≤ (setL (((kc.setIfInBounds 0 (.int .u8 17)).setIfInBounds 1 (.bool v)).setIfInBounds 18 (.bool v)) 2 (nus .u8 (kS u ++ List.replicate 12 0)).toArray.toList).size by rw [s4, v2]; omega)
  clear hA hF hB A3 R2 K2 c0 c1 c18 f0 f1 f18 v1 v2 s3 s4 HS1 HI1
  go_wp2_with (((with_reducible refine wpList_part_store (op := ⟨none, .store 25 (.tmp 38) (.tmp 36), _, _, _, _⟩) ?pg2 25 (.tmp 38) (.tmp 36) ?po2 19 (nus .u8 (kD ++ List.replicate 12 0)).toArray ?px2 ?py2 A4.out HS2.out HI2.out (nus_all _) ?_); (case pg2 => rfl); (case po2 => rfl); (case px2 => rfl); (case py2 => rfl)))
  intro W5 hA hF hB
  have K5 := Lib.hid (K4.out.trans (hB _ (Nat.le_succ _)))
  have R5 := Lib.hid (show Blk W5 w.heap.size 30 ZcK from (hF _ (by omega)).trans R4.out)
  rw [HK.out] at hA
  have hA5 : Blk W5 (w.heap.size + 1) 30 (kcells 17 (cellsA v (kS u ++ List.replicate 12 0)) (cellsA v (kD ++ List.replicate 12 0)) sp 80) := by
    rw [← key_fin17 u sp v]
    exact hA
  have A5 := Lib.hid hA5
  have y1 := kcells_size 17 (cellsA v (kS u ++ List.replicate 12 0)) (cellsA v (kD ++ List.replicate 12 0)) sp 80 rfl rfl
  have y2 := kcells_all 17 (cellsA v (kS u ++ List.replicate 12 0)) (cellsA v (kD ++ List.replicate 12 0)) sp 80 (cellsA_all _ _) (cellsA_all _ _)
  have E9 : Hid (_ = _) := show kcells 17 (cellsA v (kS u ++ List.replicate 12 0)) (cellsA v (kD ++ List.replicate 12 0)) sp 80 = _ from rfl
  clear hA hF hB hA5 A4 R4 K4 HS2 HI2
  generalize hfin : kcells 17 (cellsA v (kS u ++ List.replicate 12 0)) (cellsA v (kD ++ List.replicate 12 0)) sp 80 = fin at A5 y1 y2 E9
  have HFIN := Lib.hid hfin
  have Z5 := Lib.hid (i42.trans (congrArg some y1.symm))
  have Z6 : Hid (fin.size = Array.size (ZcK : Array Value)) := y1
  have AL := Lib.hid y2
  clear hfin y1 y2 E9
  go_wp2_with (first | ((with_reducible refine wpList_blk_load (op := ⟨some 39, .load 30 (.tmp 8), _, _, _, _⟩) ?lg2 30 (.tmp 8) ?lo2 ((w.heap.size + 1)) ?lx2 _ A5.out Try.underlying30 ?ld2 Z5.out ?_); (case lg2 => rfl); (case lo2 => rfl); (case lx2 => rfl); (case ld2 => rfl)) | ((with_reducible refine wpList_blk_store (op := ⟨none, .store 30 (.tmp 6) (.tmp 39), _, _, _, _⟩) ?sg3 30 (.tmp 6) (.tmp 39) ?so3 (w.heap.size) fin ?sx3 ?sy3 R5.out Z6.out Z5.out AL.out ?_); (case sg3 => rfl); (case so3 => rfl); (case sx3 => rfl); (case sy3 => rfl)))
  intro W6 hA hF hB
  have K6 := Lib.hid (K5.out.trans (hB _ (Nat.le_refl _)))
  have HA := Lib.hid hA
  clear hA hF hB
  go_wp2
  have hrun := run_blk_load (P := Try.prog) 30 w.heap.size _ HA.out Try.underlying30 rfl Z5.out
  exact bodyPost_ret (results_cell 6 30 w.heap.size _ Try.results9 rfl hrun) rfl ⟨by rw [HFIN.out], K6.out⟩
theorem key_any (n : Int) (v udp : Bool) (w : World) :
    Calls Try.prog 9 #[.int .i64 n, .bool v, .bool udp] w fun e w' => e = .returned (.agg (kcells (if udp then 17 else 6) (cellsA v (kS (n % 1073741824).toNat ++ List.replicate 12 0)) (cellsA v (kD ++ List.replicate 12 0)) (1000 + (n % 1073741824).toNat % 50000) 80)) ∧ Below w.heap.size w w' := by
  have hu : n % 1073741824 = (((n % 1073741824).toNat : Nat) : Int) := by omega
  have hl : (n % 1073741824).toNat < 1073741824 := by omega
  cases udp with
  | true => exact key_udp n v _ _ w hu hl rfl
  | false => exact key_tcp n v _ _ w hu hl rfl
end Go.Proofs.Ytnpibdjfafpegaa
namespace Go.Proofs.Ytnpibdjfafpegaa
open Go.RowKit
def dB (m : Nat) : List Nat := [172, 16, 0, 1 + m]
def dcells (A : Array Value) (p : Nat) : Array Value := (A.toList ++ [Value.int .u16 (p : Int)]).toArray
theorem i45 : (Try.prog.info? 33).map (·.size) = some 18 := by kernel_rfl
theorem dcells_size (A : Array Value) (p : Nat) (h : A.size = 17) : (dcells A p).size = 18 := by simp [dcells, h]
theorem dcells_all (A : Array Value) (p : Nat) (h : A.all (·.oneCell') = true) : (dcells A p).all (·.oneCell') = true := by
  rw [Array.all_eq_true_iff_forall_mem] at *
  intro x hx
  simp only [dcells, List.mem_toArray, List.mem_append, Array.mem_toList_iff, List.mem_singleton] at hx
  rcases hx with h' | rfl
  · exact h x h'
  · rfl
theorem dip_fin (m p : Nat) (v : Bool) : setL ((dcells (cellsA false z16) p).setIfInBounds 0 (.bool v)) 1 (nus .u8 (dB m ++ List.replicate 12 0)).toArray.toList = dcells (cellsA v (dB m ++ List.replicate 12 0)) p := by
  kernel_rfl
set_option maxRecDepth 100000 in
set_option maxHeartbeats 2000000 in
theorem dip_at (n : Int) (v : Bool) (p m : Nat) (w : World) (H1 : Hid (n % 1000 = (p : Int) - 8000)) (H2 : Hid (n % 200 = (m : Int))) (hp0 : 8000 ≤ p) (hp : p < 9000) (hm : m < 200) :
    Calls Try.prog 10 #[.int .i64 n, .bool v] w fun e w' => e = .returned (.agg (dcells (cellsA v (dB m ++ List.replicate 12 0)) p)) ∧ Below w.heap.size w w' := by
  have Z45 := Lib.hid (i45.trans (congrArg some (dcells_size (cellsA false z16) p rfl).symm))
  have ZZ : Hid ((dcells (cellsA false z16) p).size = Array.size (ZcD : Array Value)) := dcells_size (cellsA false z16) p rfl
  have AA := Lib.hid (dcells_all (cellsA false z16) p (cellsA_all _ _))
  have NR := Lib.hid ((Blk.new w 33 ZcD).alloc (.cells ZcD 33))
  have NG := Blk.new (w.alloc (.cells ZcD 33)) 33 ZcD
  rw [World.size_alloc] at NG
  have NG := Lib.hid NG
  have K1 := Lib.hid (((Below.refl w.heap.size w).alloc (Nat.le_refl _) (.cells ZcD 33)).alloc (by simp) (.cells ZcD 33))
  obtain ⟨kc, hkc⟩ : ∃ kc, kc = dcells (cellsA false z16) p := ⟨_, rfl⟩
  have hlit : (.agg #[.bool false, .int .u8 0, .int .u8 0, .int .u8 0, .int .u8 0, .int .u8 0, .int .u8 0, .int .u8 0, .int .u8 0, .int .u8 0, .int .u8 0, .int .u8 0, .int .u8 0, .int .u8 0, .int .u8 0, .int .u8 0, .int .u8 0, .int .u16 (p : Int)] : Value) = .agg kc := by rw [hkc]; rfl
  rw [← hkc] at Z45 ZZ AA
  have k0 : kc[0]? = some (.bool false) := by rw [hkc]; rfl
  have HL := Lib.hid hlit
  have HK := Lib.hid hkc
  have e8 : (8000 : Int) + ((p : Int) - 8000) = (p : Int) := by omega
  have E8 := Lib.hid e8
  have ep : IntKind.u16.wrap (p : Int) = (p : Int) := by rw [IntKind.wrap_u16]; omega
  have em : IntKind.u8.wrap (1 + (m : Int)) = 1 + (m : Int) := by rw [IntKind.wrap_u8]; omega
  clear hlit hkc
  go_enter Try.func10, Try.ntmps10
  go_wp2_with fail
  refine (round_any n 1000 _ (by omega) (by omega)).mono ?_
  rintro e w' ⟨rfl, rfl⟩
  rw [H1.out]
  go_wp2_with (((with_reducible refine wpList_blk_store (op := ⟨none, .store 33 (.tmp 5) (.tmp 10), _, _, _, _⟩) ?sg1 33 (.tmp 5) (.tmp 10) ?so1 ((w.heap.size + 1)) kc ?sx1 ?sy1 NG.out ZZ.out Z45.out AA.out ?_); (case sg1 => rfl); (case so1 => rfl); (case sx1 => rfl); (case sy1 => exact HL.out)))
  intro W2 hA hF hB
  have K2 := Lib.hid (K1.out.trans (hB _ (Nat.le_succ _)))
  have R2 := Lib.hid (show Blk W2 w.heap.size 33 ZcD from (hF _ (by omega)).trans NR.out)
  have A3 := Lib.hid (hA.set_ 0 (.bool v))
  have c0 := (hA.cell 0).trans k0
  have f0 := hA.frozen 0
  have hsz : kc.size = 18 := by rw [HK.out]; exact dcells_size _ _ rfl
  have s3 : (kc.setIfInBounds 0 (.bool v)).size = 18 := by simp [hsz]
  have HI1 : Hid ((Try.prog.info? 25).map (·.size) = some (nus .u8 (dB m ++ List.replicate 12 0)).toArray.size) := i16
  have v1 : (nus .u8 (dB m ++ List.replicate 12 0)).toArray.size = 16 := rfl
  have HS1 := Lib.hid (show 1 + (nus .u8 (dB m ++ List.replicate 12 0)).toArray.size ≤ (kc.setIfInBounds 0 (.bool v)).size by rw [s3, v1]; omega)
  clear hA hF hB K1 NR NG k0 hsz s3 v1 E8 e8
  go_wp2_with fail
  refine (round_any n 200 _ (by omega) (by omega)).mono ?_
  rintro e w' ⟨rfl, rfl⟩
  rw [H2.out]
  go_wp2_with (((with_reducible refine wpList_part_store (op := ⟨none, .store 25 (.tmp 20) (.tmp 18), _, _, _, _⟩) ?pg1 25 (.tmp 20) (.tmp 18) ?po1 1 (nus .u8 (dB m ++ List.replicate 12 0)).toArray ?px1 ?py1 A3.out HS1.out HI1.out (nus_all _) ?_); (case pg1 => rfl); (case po1 => rfl); (case px1 => rfl); (case py1 => rfl)))
  intro W5 hA hF hB
  have K5 := Lib.hid ((K2.out.setCell (p := ⟨w.heap.size + 1, 0, none⟩) (Nat.le_succ _) (.bool v)).trans (hB _ (Nat.le_succ _)))
  have R5 := Lib.hid (show Blk W5 w.heap.size 33 ZcD from (hF _ (by omega)).trans (R2.out.far (p := ⟨w.heap.size + 1, 0, none⟩) (by simp) (.bool v)))
  rw [HK.out] at hA
  have hA5 : Blk W5 (w.heap.size + 1) 33 (dcells (cellsA v (dB m ++ List.replicate 12 0)) p) := by
    rw [← dip_fin]
    exact hA
  have y1 := dcells_size (cellsA v (dB m ++ List.replicate 12 0)) p rfl
  have y2 := dcells_all (cellsA v (dB m ++ List.replicate 12 0)) p (cellsA_all _ _)
  have A5 := Lib.hid hA5
  clear hA hA5 hF hB A3 R2 K2 c0 f0 HS1 HI1
  generalize hfin : dcells (cellsA v (dB m ++ List.replicate 12 0)) p = fin at A5 y1 y2
  have HFIN := Lib.hid hfin
  have Z5 := Lib.hid (i45.trans (congrArg some y1.symm))
  have Z6 : Hid (fin.size = Array.size (ZcD : Array Value)) := y1
  have AL := Lib.hid y2
  clear hfin y1 y2
  go_wp2_with (first | ((with_reducible refine wpList_blk_load (op := ⟨some 21, .load 33 (.tmp 5), _, _, _, _⟩) ?lg2 33 (.tmp 5) ?lo2 ((w.heap.size + 1)) ?lx2 _ A5.out Try.underlying33 ?ld2 Z5.out ?_); (case lg2 => rfl); (case lo2 => rfl); (case lx2 => rfl); (case ld2 => rfl)) | ((with_reducible refine wpList_blk_store (op := ⟨none, .store 33 (.tmp 4) (.tmp 21), _, _, _, _⟩) ?sg3 33 (.tmp 4) (.tmp 21) ?so3 (w.heap.size) fin ?sx3 ?sy3 R5.out Z6.out Z5.out AL.out ?_); (case sg3 => rfl); (case so3 => rfl); (case sx3 => rfl); (case sy3 => rfl)))
  intro W6 hA hF hB
  have K6 := Lib.hid (K5.out.trans (hB _ (Nat.le_refl _)))
  have HA := Lib.hid hA
  clear hA hF hB
  go_wp2
  have hrun := run_blk_load (P := Try.prog) 33 w.heap.size _ HA.out Try.underlying33 rfl Z5.out
  exact bodyPost_ret (results_cell 4 33 w.heap.size _ Try.results10 rfl hrun) rfl ⟨by rw [HFIN.out], K6.out⟩
theorem dip_any (n : Int) (v : Bool) (w : World) :
    Calls Try.prog 10 #[.int .i64 n, .bool v] w fun e w' => e = .returned (.agg (dcells (cellsA v (dB (n % 200).toNat ++ List.replicate 12 0)) (8000 + (n % 1000).toNat))) ∧ Below w.heap.size w w' :=
  dip_at n v _ _ w (show n % 1000 = ((8000 + (n % 1000).toNat : Nat) : Int) - 8000 by omega) (show n % 200 = (((n % 200).toNat : Nat) : Int) by omega) (by omega) (by omega) (by omega)
end Go.Proofs.Ytnpibdjfafpegaa
namespace Go.Proofs.Ytnpibdjfafpegaa
open Go.RowKit
theorem kcells_src (p : Nat) (S D : Array Value) (sp dp : Nat) : ((kcells p S D sp dp).toList.drop 1).take S.toList.length = S.toList := by
  unfold kcells
  simp
theorem kcells_dst (p : Nat) (S D : Array Value) (sp dp : Nat) (hS : S.size = 17) : ((kcells p S D sp dp).toList.drop 18).take D.toList.length = D.toList := by
  have e : (kcells p S D sp dp).toList.drop 18 = D.toList ++ [Value.int .u16 (sp : Int), Value.int .u16 (dp : Int)] := by
    unfold kcells
    show (S.toList ++ (D.toList ++ [Value.int .u16 (sp : Int), Value.int .u16 (dp : Int)])).drop 17 = _
    have : S.toList.length = 17 := by simpa using hS
    rw [← this, List.drop_left]
  rw [e, List.take_left]
end Go.Proofs.Ytnpibdjfafpegaa
namespace Go.Proofs.Ytnpibdjfafpegaa
open Go.RowKit
set_option maxRecDepth 100000 in
set_option maxHeartbeats 400000 in
theorem rsumAt_any (p : Nat) (hp : p = 6 ∨ p = 17) (w : World) : Calls Try.prog 24 #[.int .u8 (p : Int)] w fun e w' => e = .returned (.int .i64 (sAt p : Nat)) ∧ w = w' := by
  rcases hp with rfl | rfl
  all_goals
    go_enter Try.func24, Try.ntmps24
    go_wp2
    go_ret
    exact ⟨rfl, rfl⟩
end Go.Proofs.Ytnpibdjfafpegaa
namespace Go.Proofs.Ytnpibdjfafpegaa
open Go.RowKit
theorem rd_adr {w : World} {g : Nat} {t : TypeId} {v : Bool} {bs : List Nat} (h : Blk w g t (cellsA v bs)) (n : Nat) (hn : n ≤ bs.length) (h16 : n ≤ 16) : Rd w (.slice (some ⟨g, 1, none⟩) n 16) (nus .u8 (bs.take n)) := by
  have hl : (nus .u8 (bs.take n)).length = n := by rw [nus_length]; simp; omega
  refine ⟨_, _, by rw [hl], by rw [hl]; exact h16, by simp [maxLen], .inr ⟨g, 1, rfl, h.lt, fun i hi => ?_⟩⟩
  rw [hl] at hi
  rw [h.cell (1 + i), cellsA_get v bs i (by omega), nus_get _ _ _ (by simp; omega)]
  simp [List.getD_eq_getElem?_getD, hi]
set_option maxHeartbeats 1000000 in
theorem rbytes_own (v : Bool) (bs : List Nat) (hl : bs.length = 16) (w : World) :
    Calls Try.prog 22 #[adr v bs] w fun e w' => ∃ z, e = .returned z ∧ w'.ownsRow w.heap.size 5 1 z (bytesA v bs).length (nus .u8 (bytesA v bs)) ∧ Below w.heap.size w w' := by
  unfold adr
  have HN := Lib.hid (Blk.new w 27 (cellsA v bs))
  have B0 := (Below.refl w.heap.size w).alloc (Nat.le_refl _) (.cells (cellsA v bs) 27)
  have hc0 : (w.alloc (.cells (cellsA v bs) 27)).cell? ⟨w.heap.size, 0, none⟩ = some (.bool v) := (HN.out.cell 0).trans (by simp [cellsA])
  have R4 := Lib.hid (rd_adr HN.out 4 (by omega) (by omega))
  have R16 := Lib.hid (rd_adr HN.out 16 (by omega) (by omega))
  have e16 : bs.take 16 = bs := List.take_of_length_le (by omega)
  rw [e16] at R16
  have HL := Lib.hid hl
  generalize cellsA v bs = c at *
  generalize hW : w.alloc (.cells c 27) = W at hc0 R4 R16 B0
  have HW := Lib.hid hW
  have hsz : w.heap.size ≤ W.heap.size := by rw [← hW]; simp
  have o1 := own_low hsz (own_none W 5)
  have b1 := (Below.refl W.heap.size W).alloc (Nat.le_refl _) (.cells #[] 5)
  have K1 := Lib.hid (B0.trans (b1.mono hsz))
  have O1 := Lib.hid o1
  have r4 := Lib.hid (R4.out.below b1)
  have r16 := Lib.hid (R16.out.below b1)
  clear hl hW HN B0 e16 o1 b1 R4 R16
  cases v with
  | false =>
    unfold bytesA
    rw [if_neg (by decide), show (bs.take 4).length = 4 from by rw [List.length_take, HL.out]; rfl]
    go_enter Try.func22, Try.ntmps22
    have hWW := HW.out
    go_wp2_with (at_builtin; refine wpList_app rfl (.tmp 6) (.tmp 9) rfl w.heap.size _ 0 [] rfl O1.out (some _) 4 16 (bs.take 4) rfl r4.out ?c1 ?c2 ?c3 ?c4)
    case c1 => intro e; cases e
    case c2 => omega
    case c3 => exact K1.out.size
    intro v2 w2 o2 g2
    have K2 := Lib.hid (K1.out.grown g2 K1.out.size (fun k e => (O1.out.lt k e).1))
    have O2 := Lib.hid o2
    clear o2 g2
    go_wp2
    go_ret
    exact ⟨_, rfl, O2.out, K2.out⟩
  | true =>
    unfold bytesA
    rw [if_pos rfl, show bs.length = 16 from HL.out]
    go_enter Try.func22, Try.ntmps22
    have hWW := HW.out
    go_wp2_with (at_builtin; refine wpList_app rfl (.tmp 6) (.tmp 9) rfl w.heap.size _ 0 [] rfl O1.out (some _) 16 16 bs rfl r16.out ?d1 ?d2 ?d3 ?d4)
    case d1 => intro e; cases e
    case d2 => omega
    case d3 => exact K1.out.size
    intro v2 w2 o2 g2
    have K2 := Lib.hid (K1.out.grown g2 K1.out.size (fun k e => (O1.out.lt k e).1))
    have O2 := Lib.hid o2
    clear o2 g2
    go_wp2
    go_ret
    exact ⟨_, rfl, O2.out, K2.out⟩
end Go.Proofs.Ytnpibdjfafpegaa
namespace Go.Proofs.Ytnpibdjfafpegaa
open Go.RowKit
theorem subP {w : World} {b off len cap : Nat} {k : IntKind} {bs : List Nat} (h : Rd w (.slice (some ⟨b, off, none⟩) len cap) (nus k bs)) (j m : Nat) (hc : j + m ≤ len) :
    Rd w (.slice (if cap = j then some ⟨b, off, none⟩ else some ⟨b, off + j, none⟩) m (cap - j)) (nus k ((bs.drop j).take m)) := by
  by_cases he : cap = j
  · rw [if_pos he]
    have h1 := h
    obtain ⟨a', cap', e, h1, h2, h3⟩ := h1
    simp only [Value.slice.injEq] at e
    obtain ⟨-, rfl, rfl⟩ := e
    have hm : m = 0 := by omega
    subst hm
    exact ⟨some ⟨b, off, none⟩, cap - j, by simp [nus], by simp [nus], by omega, .inl (by simp [nus])⟩
  · rw [if_neg he]; exact h.sub j m hc
end Go.Proofs.Ytnpibdjfafpegaa
