/- Texts that the walks of this seat lean on, put together: each has its own remark below. -/
import Derived.BigFrame
import Derived.Lib.AppendZeros
import Derived.Lib.AppendZerosOnto
import Derived.Laws.AppendOwnNone
import Derived.WalkKit
import Derived.LoopTactic
import Derived.Handy
import Derived.Test.YtopfbgoiehlhbaaM01
import Derived.Test.YtopfbgoiehlhbaaM02
import Derived.Test.YtopfbgoiehlhbaaM04
import Derived.Test.YtopfbgoiehlhbaaM05

/- bazaaralike.Key and Dip. -/
namespace Go.Proofs.Ytopfbgoiehlhbaa
open Go.RowKit

/-- The bytes of a flow's addresses. -/
def kS (u : Nat) : List Nat := [10, u / 65536 % 256, u / 256 % 256, u % 256]
def kD : List Nat := [192, 168, 0, 1]
/-- The cells of a flow. -/
def kcells (p : Nat) (S D : Array Value) (sp dp : Nat) : Array Value := (Value.int .u8 (p : Int) :: (S.toList ++ (D.toList ++ [.int .u16 (sp : Int), .int .u16 (dp : Int)]))).toArray
theorem k_bytes (u : Nat) (h : u < 1073741824) : IntKind.u32.wrap (u : Int) = (u : Int) ∧ IntKind.u8.wrap ((u : Int) / 65536) = ((u / 65536 % 256 : Nat) : Int) ∧ IntKind.u8.wrap ((u : Int) / 256) = ((u / 256 % 256 : Nat) : Int) ∧ IntKind.u8.wrap (u : Int) = ((u % 256 : Nat) : Int) ∧
    IntKind.u16.wrap (1000 + (u : Int) % 50000) = ((1000 + u % 50000 : Nat) : Int) := by
  refine ⟨?_, ?_, ?_, ?_, ?_⟩
  · rw [IntKind.wrap_u32]; omega
  · rw [IntKind.wrap_u8]; omega
  · rw [IntKind.wrap_u8]; omega
  · rw [IntKind.wrap_u8]; omega
  · rw [IntKind.wrap_u16]; omega

theorem i42 : (Try.prog.info? 29).map (·.size) = some 37 := by kernel_rfl
theorem kcells_size (p : Nat) (S D : Array Value) (sp dp : Nat) (hS : S.size = 17) (hD : D.size = 17) : (kcells p S D sp dp).size = 37 := by
  simp [kcells, hS, hD]
theorem kcells_all (p : Nat) (S D : Array Value) (sp dp : Nat) (hS : S.all (·.oneCell') = true) (hD : D.all (·.oneCell') = true) : (kcells p S D sp dp).all (·.oneCell') = true := by
  rw [Array.all_eq_true_iff_forall_mem] at *
  intro x hx
  simp only [kcells, List.mem_toArray, List.mem_cons, List.mem_append, Array.mem_toList_iff, List.not_mem_nil, or_false] at hx
  rcases hx with rfl | h | h | rfl | rfl
  · rfl
  · exact hS x h
  · exact hD x h
  · rfl
  · rfl
def z16 : List Nat := [0, 0, 0, 0, 0, 0, 0, 0, 0, 0, 0, 0, 0, 0, 0, 0]
theorem i16 : (Try.prog.info? 24).map (·.size) = some 16 := by kernel_rfl
theorem nus_all (zs : List Nat) : (nus .u8 zs).toArray.all (·.oneCell') = true := Array.all_eq_true_iff_forall_mem.2 fun x hx => oneCell_nus _ _ x (by simpa using hx)
theorem setL_size : ∀ (vs : List Value) (cs : Array Value) (o : Nat), (setL cs o vs).size = cs.size
  | [], _, _ => rfl
  | v :: r, cs, o => by rw [setL, setL_size r]; simp
theorem key_fin6 (u sp : Nat) (v : Bool) : setL (setL (((kcells 6 (cellsA false z16) (cellsA false z16) sp 80).setIfInBounds 1 (.bool v)).setIfInBounds 18 (.bool v)) 2 (nus .u8 (kS u ++ List.replicate 12 0)).toArray.toList) 19 (nus .u8 (kD ++ List.replicate 12 0)).toArray.toList = kcells 6 (cellsA v (kS u ++ List.replicate 12 0)) (cellsA v (kD ++ List.replicate 12 0)) sp 80 := by
  kernel_rfl
theorem key_fin17 (u sp : Nat) (v : Bool) : setL (setL ((((kcells 6 (cellsA false z16) (cellsA false z16) sp 80).setIfInBounds 0 (.int .u8 17)).setIfInBounds 1 (.bool v)).setIfInBounds 18 (.bool v)) 2 (nus .u8 (kS u ++ List.replicate 12 0)).toArray.toList) 19 (nus .u8 (kD ++ List.replicate 12 0)).toArray.toList = kcells 17 (cellsA v (kS u ++ List.replicate 12 0)) (cellsA v (kD ++ List.replicate 12 0)) sp 80 := by
  kernel_rfl

set_option maxRecDepth 100000 in
set_option maxHeartbeats 2000000 in
theorem key_tcp (n : Int) (v : Bool) (u sp : Nat) (w : World) (HU : Hid (n % 1073741824 = (u : Int))) (hul : u < 1073741824) (hsp : sp = 1000 + u % 50000) :
    Calls Try.prog 17 #[.int .i64 n, .bool v, .bool false] w fun e w' => e = .returned (.agg (kcells 6 (cellsA v (kS u ++ List.replicate 12 0)) (cellsA v (kD ++ List.replicate 12 0)) sp 80)) ∧ Below w.heap.size w w' := by
  obtain ⟨b0, b1, b2, b3, b4⟩ := k_bytes u hul
  rw [← hsp] at b4
  have Z42 := Lib.hid (i42.trans (congrArg some (kcells_size 6 (cellsA false z16) (cellsA false z16) sp 80 rfl rfl).symm))
  have ZZ : Hid ((kcells 6 (cellsA false z16) (cellsA false z16) sp 80).size = Array.size (#[Value.int .u8 0, .bool false, .int .u8 0, .int .u8 0, .int .u8 0, .int .u8 0, .int .u8 0, .int .u8 0, .int .u8 0, .int .u8 0, .int .u8 0, .int .u8 0, .int .u8 0, .int .u8 0, .int .u8 0, .int .u8 0, .int .u8 0, .int .u8 0, .bool false, .int .u8 0, .int .u8 0, .int .u8 0, .int .u8 0, .int .u8 0, .int .u8 0, .int .u8 0, .int .u8 0, .int .u8 0, .int .u8 0, .int .u8 0, .int .u8 0, .int .u8 0, .int .u8 0, .int .u8 0, .int .u8 0, .int .u16 0, .int .u16 0] : Array Value)) := kcells_size 6 (cellsA false z16) (cellsA false z16) sp 80 rfl rfl
  have AA := Lib.hid (kcells_all 6 (cellsA false z16) (cellsA false z16) sp 80 (cellsA_all _ _) (cellsA_all _ _))
  have NR := Lib.hid ((Blk.new w 29 #[Value.int .u8 0, .bool false, .int .u8 0, .int .u8 0, .int .u8 0, .int .u8 0, .int .u8 0, .int .u8 0, .int .u8 0, .int .u8 0, .int .u8 0, .int .u8 0, .int .u8 0, .int .u8 0, .int .u8 0, .int .u8 0, .int .u8 0, .int .u8 0, .bool false, .int .u8 0, .int .u8 0, .int .u8 0, .int .u8 0, .int .u8 0, .int .u8 0, .int .u8 0, .int .u8 0, .int .u8 0, .int .u8 0, .int .u8 0, .int .u8 0, .int .u8 0, .int .u8 0, .int .u8 0, .int .u8 0, .int .u16 0, .int .u16 0]).alloc (.cells #[Value.int .u8 0, .bool false, .int .u8 0, .int .u8 0, .int .u8 0, .int .u8 0, .int .u8 0, .int .u8 0, .int .u8 0, .int .u8 0, .int .u8 0, .int .u8 0, .int .u8 0, .int .u8 0, .int .u8 0, .int .u8 0, .int .u8 0, .int .u8 0, .bool false, .int .u8 0, .int .u8 0, .int .u8 0, .int .u8 0, .int .u8 0, .int .u8 0, .int .u8 0, .int .u8 0, .int .u8 0, .int .u8 0, .int .u8 0, .int .u8 0, .int .u8 0, .int .u8 0, .int .u8 0, .int .u8 0, .int .u16 0, .int .u16 0] 29))
  have NG := Blk.new (w.alloc (.cells #[Value.int .u8 0, .bool false, .int .u8 0, .int .u8 0, .int .u8 0, .int .u8 0, .int .u8 0, .int .u8 0, .int .u8 0, .int .u8 0, .int .u8 0, .int .u8 0, .int .u8 0, .int .u8 0, .int .u8 0, .int .u8 0, .int .u8 0, .int .u8 0, .bool false, .int .u8 0, .int .u8 0, .int .u8 0, .int .u8 0, .int .u8 0, .int .u8 0, .int .u8 0, .int .u8 0, .int .u8 0, .int .u8 0, .int .u8 0, .int .u8 0, .int .u8 0, .int .u8 0, .int .u8 0, .int .u8 0, .int .u16 0, .int .u16 0] 29)) 29 #[Value.int .u8 0, .bool false, .int .u8 0, .int .u8 0, .int .u8 0, .int .u8 0, .int .u8 0, .int .u8 0, .int .u8 0, .int .u8 0, .int .u8 0, .int .u8 0, .int .u8 0, .int .u8 0, .int .u8 0, .int .u8 0, .int .u8 0, .int .u8 0, .bool false, .int .u8 0, .int .u8 0, .int .u8 0, .int .u8 0, .int .u8 0, .int .u8 0, .int .u8 0, .int .u8 0, .int .u8 0, .int .u8 0, .int .u8 0, .int .u8 0, .int .u8 0, .int .u8 0, .int .u8 0, .int .u8 0, .int .u16 0, .int .u16 0]
  rw [World.size_alloc] at NG
  have NG := Lib.hid NG
  have K1 := Lib.hid (((Below.refl w.heap.size w).alloc (Nat.le_refl _) (.cells #[Value.int .u8 0, .bool false, .int .u8 0, .int .u8 0, .int .u8 0, .int .u8 0, .int .u8 0, .int .u8 0, .int .u8 0, .int .u8 0, .int .u8 0, .int .u8 0, .int .u8 0, .int .u8 0, .int .u8 0, .int .u8 0, .int .u8 0, .int .u8 0, .bool false, .int .u8 0, .int .u8 0, .int .u8 0, .int .u8 0, .int .u8 0, .int .u8 0, .int .u8 0, .int .u8 0, .int .u8 0, .int .u8 0, .int .u8 0, .int .u8 0, .int .u8 0, .int .u8 0, .int .u8 0, .int .u8 0, .int .u16 0, .int .u16 0] 29)).alloc (by simp) (.cells #[Value.int .u8 0, .bool false, .int .u8 0, .int .u8 0, .int .u8 0, .int .u8 0, .int .u8 0, .int .u8 0, .int .u8 0, .int .u8 0, .int .u8 0, .int .u8 0, .int .u8 0, .int .u8 0, .int .u8 0, .int .u8 0, .int .u8 0, .int .u8 0, .bool false, .int .u8 0, .int .u8 0, .int .u8 0, .int .u8 0, .int .u8 0, .int .u8 0, .int .u8 0, .int .u8 0, .int .u8 0, .int .u8 0, .int .u8 0, .int .u8 0, .int .u8 0, .int .u8 0, .int .u8 0, .int .u8 0, .int .u16 0, .int .u16 0] 29))
  obtain ⟨kc, hkc⟩ : ∃ kc, kc = kcells 6 (cellsA false z16) (cellsA false z16) sp 80 := ⟨_, rfl⟩
  have hlit : (.agg #[.int .u8 6, .bool false, .int .u8 0, .int .u8 0, .int .u8 0, .int .u8 0, .int .u8 0, .int .u8 0, .int .u8 0, .int .u8 0, .int .u8 0, .int .u8 0, .int .u8 0, .int .u8 0, .int .u8 0, .int .u8 0, .int .u8 0, .int .u8 0, .bool false, .int .u8 0, .int .u8 0, .int .u8 0, .int .u8 0, .int .u8 0, .int .u8 0, .int .u8 0, .int .u8 0, .int .u8 0, .int .u8 0, .int .u8 0, .int .u8 0, .int .u8 0, .int .u8 0, .int .u8 0, .int .u8 0, .int .u16 (1000 + (u : Int) % 50000), .int .u16 80] : Value) = .agg kc := by rw [hkc, hsp]; rfl
  rw [← hkc] at Z42 ZZ AA
  have k0 : kc[0]? = some (.int .u8 6) := by rw [hkc]; rfl
  have k1 : kc[1]? = some (.bool false) := by rw [hkc]; rfl
  have k18 : kc[18]? = some (.bool false) := by rw [hkc]; rfl
  have HL := Lib.hid hlit
  have HK := Lib.hid hkc
  clear hlit hkc
  go_enter Try.func17, Try.ntmps17
  go_wp2_with fail
  refine (round_any n 1073741824 _ (by omega) (by omega)).mono ?_
  rintro e w' ⟨rfl, rfl⟩
  rw [HU.out]
  go_wp2_with (((with_reducible refine wpList_blk_store (op := ⟨none, .store 29 (.tmp 8) (.tmp 16), _, _, _, _⟩) ?sg4 29 (.tmp 8) (.tmp 16) ?so4 ((w.heap.size + 1)) kc ?sx4 ?sy4 NG.out ZZ.out Z42.out AA.out ?_); (case sg4 => rfl); (case so4 => rfl); (case sx4 => rfl); (case sy4 => exact HL.out)))
  intro W2 hA hF hB
  have K2 := Lib.hid (K1.out.trans (hB _ (Nat.le_succ _)))
  have R2 := Lib.hid (show Blk W2 w.heap.size 29 #[Value.int .u8 0, .bool false, .int .u8 0, .int .u8 0, .int .u8 0, .int .u8 0, .int .u8 0, .int .u8 0, .int .u8 0, .int .u8 0, .int .u8 0, .int .u8 0, .int .u8 0, .int .u8 0, .int .u8 0, .int .u8 0, .int .u8 0, .int .u8 0, .bool false, .int .u8 0, .int .u8 0, .int .u8 0, .int .u8 0, .int .u8 0, .int .u8 0, .int .u8 0, .int .u8 0, .int .u8 0, .int .u8 0, .int .u8 0, .int .u8 0, .int .u8 0, .int .u8 0, .int .u8 0, .int .u8 0, .int .u16 0, .int .u16 0] from (hF _ (by omega)).trans NR.out)
  have A3 := Lib.hid ((hA.set_ 1 (.bool v)).set_ 18 (.bool v))
  have c0 := (hA.cell 0).trans k0
  have c1 := (hA.cell 1).trans k1
  have c18 := (hA.cell 18).trans k18
  have f0 := hA.frozen 0
  have f1 := hA.frozen 1
  have f18 := hA.frozen 18
  have hsz : kc.size = 37 := by rw [HK.out]; exact kcells_size _ _ _ _ _ rfl rfl
  have s3 : ((kc.setIfInBounds 1 (.bool v)).setIfInBounds 18 (.bool v)).size = 37 := by simp [hsz]
  clear hA hF hB K1 NR NG k0 k1 k18 hsz
  have HI1 : Hid ((Try.prog.info? 24).map (·.size) = some (nus .u8 (kS u ++ List.replicate 12 0)).toArray.size) := i16
  have HI2 : Hid ((Try.prog.info? 24).map (·.size) = some (nus .u8 (kD ++ List.replicate 12 0)).toArray.size) := i16
  have v1 : (nus .u8 (kS u ++ List.replicate 12 0)).toArray.size = 16 := rfl
  have v2 : (nus .u8 (kD ++ List.replicate 12 0)).toArray.size = 16 := rfl
  have HS1 := Lib.hid (show 2 + (nus .u8 (kS u ++ List.replicate 12 0)).toArray.size ≤ ((kc.setIfInBounds 1 (.bool v)).setIfInBounds 18 (.bool v)).size by rw [s3, v1]; omega)
  go_wp2_with (((with_reducible refine wpList_part_store (op := ⟨none, .store 24 (.tmp 35) (.tmp 33), _, _, _, _⟩) ?pg3 24 (.tmp 35) (.tmp 33) ?po3 2 (nus .u8 (kS u ++ List.replicate 12 0)).toArray ?px3 ?py3 A3.out HS1.out HI1.out (nus_all _) ?_); (case pg3 => rfl); (case po3 => rfl); (case px3 => rfl); (case py3 => rfl)))
  intro W4 hA hF hB
  have K4 := Lib.hid (((K2.out.setCell (p := ⟨w.heap.size + 1, 1, none⟩) (Nat.le_succ _) (.bool v)).setCell (p := ⟨w.heap.size + 1, 18, none⟩) (Nat.le_succ _) (.bool v)).trans (hB _ (Nat.le_succ _)))
  have R4 := Lib.hid (show Blk W4 w.heap.size 29 #[Value.int .u8 0, .bool false, .int .u8 0, .int .u8 0, .int .u8 0, .int .u8 0, .int .u8 0, .int .u8 0, .int .u8 0, .int .u8 0, .int .u8 0, .int .u8 0, .int .u8 0, .int .u8 0, .int .u8 0, .int .u8 0, .int .u8 0, .int .u8 0, .bool false, .int .u8 0, .int .u8 0, .int .u8 0, .int .u8 0, .int .u8 0, .int .u8 0, .int .u8 0, .int .u8 0, .int .u8 0, .int .u8 0, .int .u8 0, .int .u8 0, .int .u8 0, .int .u8 0, .int .u8 0, .int .u8 0, .int .u16 0, .int .u16 0] from (hF _ (by omega)).trans (((R2.out.far (p := ⟨w.heap.size + 1, 1, none⟩) (by simp) (.bool v)).far (p := ⟨w.heap.size + 1, 18, none⟩) (by simp) (.bool v))))
  have A4 := Lib.hid hA
  have s4 : (setL ((kc.setIfInBounds 1 (.bool v)).setIfInBounds 18 (.bool v)) 2 (nus .u8 (kS u ++ List.replicate 12 0)).toArray.toList).size = 37 := by rw [setL_size]; exact s3
  have HS2 := Lib.hid (show 19 + (nus .u8 (kD ++ List.replicate 12 0)).toArray.size ≤ (setL ((kc.setIfInBounds 1 (.bool v)).setIfInBounds 18 (.bool v)) 2 (nus .u8 (kS u ++ List.replicate 12 0)).toArray.toList).size by rw [s4, v2]; omega)
  clear hA hF hB A3 R2 K2 c0 c1 c18 f0 f1 f18 v1 v2 s3 s4 HS1 HI1
  go_wp2_with (((with_reducible refine wpList_part_store (op := ⟨none, .store 24 (.tmp 38) (.tmp 36), _, _, _, _⟩) ?pg4 24 (.tmp 38) (.tmp 36) ?po4 19 (nus .u8 (kD ++ List.replicate 12 0)).toArray ?px4 ?py4 A4.out HS2.out HI2.out (nus_all _) ?_); (case pg4 => rfl); (case po4 => rfl); (case px4 => rfl); (case py4 => rfl)))
  intro W5 hA hF hB
  have K5 := Lib.hid (K4.out.trans (hB _ (Nat.le_succ _)))
  have R5 := Lib.hid (show Blk W5 w.heap.size 29 #[Value.int .u8 0, .bool false, .int .u8 0, .int .u8 0, .int .u8 0, .int .u8 0, .int .u8 0, .int .u8 0, .int .u8 0, .int .u8 0, .int .u8 0, .int .u8 0, .int .u8 0, .int .u8 0, .int .u8 0, .int .u8 0, .int .u8 0, .int .u8 0, .bool false, .int .u8 0, .int .u8 0, .int .u8 0, .int .u8 0, .int .u8 0, .int .u8 0, .int .u8 0, .int .u8 0, .int .u8 0, .int .u8 0, .int .u8 0, .int .u8 0, .int .u8 0, .int .u8 0, .int .u8 0, .int .u8 0, .int .u16 0, .int .u16 0] from (hF _ (by omega)).trans R4.out)
  rw [HK.out] at hA
  have hA5 : Blk W5 (w.heap.size + 1) 29 (kcells 6 (cellsA v (kS u ++ List.replicate 12 0)) (cellsA v (kD ++ List.replicate 12 0)) sp 80) := by
    rw [← key_fin6 u sp v]
    exact hA
  have A5 := Lib.hid hA5
  have y1 := kcells_size 6 (cellsA v (kS u ++ List.replicate 12 0)) (cellsA v (kD ++ List.replicate 12 0)) sp 80 rfl rfl
  have y2 := kcells_all 6 (cellsA v (kS u ++ List.replicate 12 0)) (cellsA v (kD ++ List.replicate 12 0)) sp 80 (cellsA_all _ _) (cellsA_all _ _)
  have E9 : Hid (_ = _) := show kcells 6 (cellsA v (kS u ++ List.replicate 12 0)) (cellsA v (kD ++ List.replicate 12 0)) sp 80 = _ from rfl
  clear hA hF hB hA5 A4 R4 K4 HS2 HI2
  generalize hfin : kcells 6 (cellsA v (kS u ++ List.replicate 12 0)) (cellsA v (kD ++ List.replicate 12 0)) sp 80 = fin at A5 y1 y2 E9
  have HFIN := Lib.hid hfin
  have Z5 := Lib.hid (i42.trans (congrArg some y1.symm))
  have Z6 : Hid (fin.size = Array.size (#[Value.int .u8 0, .bool false, .int .u8 0, .int .u8 0, .int .u8 0, .int .u8 0, .int .u8 0, .int .u8 0, .int .u8 0, .int .u8 0, .int .u8 0, .int .u8 0, .int .u8 0, .int .u8 0, .int .u8 0, .int .u8 0, .int .u8 0, .int .u8 0, .bool false, .int .u8 0, .int .u8 0, .int .u8 0, .int .u8 0, .int .u8 0, .int .u8 0, .int .u8 0, .int .u8 0, .int .u8 0, .int .u8 0, .int .u8 0, .int .u8 0, .int .u8 0, .int .u8 0, .int .u8 0, .int .u8 0, .int .u16 0, .int .u16 0] : Array Value)) := y1
  have AL := Lib.hid y2
  clear hfin y1 y2 E9
  go_wp2_with (first | ((with_reducible refine wpList_blk_load (op := ⟨some 39, .load 29 (.tmp 8), _, _, _, _⟩) ?lg5 29 (.tmp 8) ?lo5 ((w.heap.size + 1)) ?lx5 _ A5.out Try.underlying29 ?ld5 Z5.out ?_); (case lg5 => rfl); (case lo5 => rfl); (case lx5 => rfl); (case ld5 => rfl)) | ((with_reducible refine wpList_blk_store (op := ⟨none, .store 29 (.tmp 6) (.tmp 39), _, _, _, _⟩) ?sg6 29 (.tmp 6) (.tmp 39) ?so6 (w.heap.size) fin ?sx6 ?sy6 R5.out Z6.out Z5.out AL.out ?_); (case sg6 => rfl); (case so6 => rfl); (case sx6 => rfl); (case sy6 => rfl)))
  intro W6 hA hF hB
  have K6 := Lib.hid (K5.out.trans (hB _ (Nat.le_refl _)))
  have HA := Lib.hid hA
  clear hA hF hB
  go_wp2
  have hrun := run_blk_load (P := Try.prog) 29 w.heap.size _ HA.out Try.underlying29 rfl Z5.out
  exact bodyPost_ret (results_cell 6 29 w.heap.size _ Try.results17 rfl hrun) rfl ⟨by rw [HFIN.out], K6.out⟩
set_option maxRecDepth 100000 in
set_option maxHeartbeats 2000000 in
theorem key_udp (n : Int) (v : Bool) (u sp : Nat) (w : World) (HU : Hid (n % 1073741824 = (u : Int))) (hul : u < 1073741824) (hsp : sp = 1000 + u % 50000) :
    Calls Try.prog 17 #[.int .i64 n, .bool v, .bool true] w fun e w' => e = .returned (.agg (kcells 17 (cellsA v (kS u ++ List.replicate 12 0)) (cellsA v (kD ++ List.replicate 12 0)) sp 80)) ∧ Below w.heap.size w w' := by
  obtain ⟨b0, b1, b2, b3, b4⟩ := k_bytes u hul
  rw [← hsp] at b4
  have Z42 := Lib.hid (i42.trans (congrArg some (kcells_size 6 (cellsA false z16) (cellsA false z16) sp 80 rfl rfl).symm))
  have ZZ : Hid ((kcells 6 (cellsA false z16) (cellsA false z16) sp 80).size = Array.size (#[Value.int .u8 0, .bool false, .int .u8 0, .int .u8 0, .int .u8 0, .int .u8 0, .int .u8 0, .int .u8 0, .int .u8 0, .int .u8 0, .int .u8 0, .int .u8 0, .int .u8 0, .int .u8 0, .int .u8 0, .int .u8 0, .int .u8 0, .int .u8 0, .bool false, .int .u8 0, .int .u8 0, .int .u8 0, .int .u8 0, .int .u8 0, .int .u8 0, .int .u8 0, .int .u8 0, .int .u8 0, .int .u8 0, .int .u8 0, .int .u8 0, .int .u8 0, .int .u8 0, .int .u8 0, .int .u8 0, .int .u16 0, .int .u16 0] : Array Value)) := kcells_size 6 (cellsA false z16) (cellsA false z16) sp 80 rfl rfl
  have AA := Lib.hid (kcells_all 6 (cellsA false z16) (cellsA false z16) sp 80 (cellsA_all _ _) (cellsA_all _ _))
  have NR := Lib.hid ((Blk.new w 29 #[Value.int .u8 0, .bool false, .int .u8 0, .int .u8 0, .int .u8 0, .int .u8 0, .int .u8 0, .int .u8 0, .int .u8 0, .int .u8 0, .int .u8 0, .int .u8 0, .int .u8 0, .int .u8 0, .int .u8 0, .int .u8 0, .int .u8 0, .int .u8 0, .bool false, .int .u8 0, .int .u8 0, .int .u8 0, .int .u8 0, .int .u8 0, .int .u8 0, .int .u8 0, .int .u8 0, .int .u8 0, .int .u8 0, .int .u8 0, .int .u8 0, .int .u8 0, .int .u8 0, .int .u8 0, .int .u8 0, .int .u16 0, .int .u16 0]).alloc (.cells #[Value.int .u8 0, .bool false, .int .u8 0, .int .u8 0, .int .u8 0, .int .u8 0, .int .u8 0, .int .u8 0, .int .u8 0, .int .u8 0, .int .u8 0, .int .u8 0, .int .u8 0, .int .u8 0, .int .u8 0, .int .u8 0, .int .u8 0, .int .u8 0, .bool false, .int .u8 0, .int .u8 0, .int .u8 0, .int .u8 0, .int .u8 0, .int .u8 0, .int .u8 0, .int .u8 0, .int .u8 0, .int .u8 0, .int .u8 0, .int .u8 0, .int .u8 0, .int .u8 0, .int .u8 0, .int .u8 0, .int .u16 0, .int .u16 0] 29))
  have NG := Blk.new (w.alloc (.cells #[Value.int .u8 0, .bool false, .int .u8 0, .int .u8 0, .int .u8 0, .int .u8 0, .int .u8 0, .int .u8 0, .int .u8 0, .int .u8 0, .int .u8 0, .int .u8 0, .int .u8 0, .int .u8 0, .int .u8 0, .int .u8 0, .int .u8 0, .int .u8 0, .bool false, .int .u8 0, .int .u8 0, .int .u8 0, .int .u8 0, .int .u8 0, .int .u8 0, .int .u8 0, .int .u8 0, .int .u8 0, .int .u8 0, .int .u8 0, .int .u8 0, .int .u8 0, .int .u8 0, .int .u8 0, .int .u8 0, .int .u16 0, .int .u16 0] 29)) 29 #[Value.int .u8 0, .bool false, .int .u8 0, .int .u8 0, .int .u8 0, .int .u8 0, .int .u8 0, .int .u8 0, .int .u8 0, .int .u8 0, .int .u8 0, .int .u8 0, .int .u8 0, .int .u8 0, .int .u8 0, .int .u8 0, .int .u8 0, .int .u8 0, .bool false, .int .u8 0, .int .u8 0, .int .u8 0, .int .u8 0, .int .u8 0, .int .u8 0, .int .u8 0, .int .u8 0, .int .u8 0, .int .u8 0, .int .u8 0, .int .u8 0, .int .u8 0, .int .u8 0, .int .u8 0, .int .u8 0, .int .u16 0, .int .u16 0]
  rw [World.size_alloc] at NG
  have NG := Lib.hid NG
  have K1 := Lib.hid (((Below.refl w.heap.size w).alloc (Nat.le_refl _) (.cells #[Value.int .u8 0, .bool false, .int .u8 0, .int .u8 0, .int .u8 0, .int .u8 0, .int .u8 0, .int .u8 0, .int .u8 0, .int .u8 0, .int .u8 0, .int .u8 0, .int .u8 0, .int .u8 0, .int .u8 0, .int .u8 0, .int .u8 0, .int .u8 0, .bool false, .int .u8 0, .int .u8 0, .int .u8 0, .int .u8 0, .int .u8 0, .int .u8 0, .int .u8 0, .int .u8 0, .int .u8 0, .int .u8 0, .int .u8 0, .int .u8 0, .int .u8 0, .int .u8 0, .int .u8 0, .int .u8 0, .int .u16 0, .int .u16 0] 29)).alloc (by simp) (.cells #[Value.int .u8 0, .bool false, .int .u8 0, .int .u8 0, .int .u8 0, .int .u8 0, .int .u8 0, .int .u8 0, .int .u8 0, .int .u8 0, .int .u8 0, .int .u8 0, .int .u8 0, .int .u8 0, .int .u8 0, .int .u8 0, .int .u8 0, .int .u8 0, .bool false, .int .u8 0, .int .u8 0, .int .u8 0, .int .u8 0, .int .u8 0, .int .u8 0, .int .u8 0, .int .u8 0, .int .u8 0, .int .u8 0, .int .u8 0, .int .u8 0, .int .u8 0, .int .u8 0, .int .u8 0, .int .u8 0, .int .u16 0, .int .u16 0] 29))
  obtain ⟨kc, hkc⟩ : ∃ kc, kc = kcells 6 (cellsA false z16) (cellsA false z16) sp 80 := ⟨_, rfl⟩
  have hlit : (.agg #[.int .u8 6, .bool false, .int .u8 0, .int .u8 0, .int .u8 0, .int .u8 0, .int .u8 0, .int .u8 0, .int .u8 0, .int .u8 0, .int .u8 0, .int .u8 0, .int .u8 0, .int .u8 0, .int .u8 0, .int .u8 0, .int .u8 0, .int .u8 0, .bool false, .int .u8 0, .int .u8 0, .int .u8 0, .int .u8 0, .int .u8 0, .int .u8 0, .int .u8 0, .int .u8 0, .int .u8 0, .int .u8 0, .int .u8 0, .int .u8 0, .int .u8 0, .int .u8 0, .int .u8 0, .int .u8 0, .int .u16 (1000 + (u : Int) % 50000), .int .u16 80] : Value) = .agg kc := by rw [hkc, hsp]; rfl
  rw [← hkc] at Z42 ZZ AA
  have k0 : kc[0]? = some (.int .u8 6) := by rw [hkc]; rfl
  have k1 : kc[1]? = some (.bool false) := by rw [hkc]; rfl
  have k18 : kc[18]? = some (.bool false) := by rw [hkc]; rfl
  have HL := Lib.hid hlit
  have HK := Lib.hid hkc
  clear hlit hkc
  go_enter Try.func17, Try.ntmps17
  go_wp2_with fail
  refine (round_any n 1073741824 _ (by omega) (by omega)).mono ?_
  rintro e w' ⟨rfl, rfl⟩
  rw [HU.out]
  go_wp2_with (((with_reducible refine wpList_blk_store (op := ⟨none, .store 29 (.tmp 8) (.tmp 16), _, _, _, _⟩) ?sg1 29 (.tmp 8) (.tmp 16) ?so1 ((w.heap.size + 1)) kc ?sx1 ?sy1 NG.out ZZ.out Z42.out AA.out ?_); (case sg1 => rfl); (case so1 => rfl); (case sx1 => rfl); (case sy1 => exact HL.out)))
  intro W2 hA hF hB
  have K2 := Lib.hid (K1.out.trans (hB _ (Nat.le_succ _)))
  have R2 := Lib.hid (show Blk W2 w.heap.size 29 #[Value.int .u8 0, .bool false, .int .u8 0, .int .u8 0, .int .u8 0, .int .u8 0, .int .u8 0, .int .u8 0, .int .u8 0, .int .u8 0, .int .u8 0, .int .u8 0, .int .u8 0, .int .u8 0, .int .u8 0, .int .u8 0, .int .u8 0, .int .u8 0, .bool false, .int .u8 0, .int .u8 0, .int .u8 0, .int .u8 0, .int .u8 0, .int .u8 0, .int .u8 0, .int .u8 0, .int .u8 0, .int .u8 0, .int .u8 0, .int .u8 0, .int .u8 0, .int .u8 0, .int .u8 0, .int .u8 0, .int .u16 0, .int .u16 0] from (hF _ (by omega)).trans NR.out)
  have A3 := Lib.hid (((hA.set_ 0 (.int .u8 17)).set_ 1 (.bool v)).set_ 18 (.bool v))
  have c0 := (hA.cell 0).trans k0
  have c1 := (hA.cell 1).trans k1
  have c18 := (hA.cell 18).trans k18
  have f0 := hA.frozen 0
  have f1 := hA.frozen 1
  have f18 := hA.frozen 18
  have hsz : kc.size = 37 := by rw [HK.out]; exact kcells_size _ _ _ _ _ rfl rfl
  have s3 : (((kc.setIfInBounds 0 (.int .u8 17)).setIfInBounds 1 (.bool v)).setIfInBounds 18 (.bool v)).size = 37 := by simp [hsz]
  clear hA hF hB K1 NR NG k0 k1 k18 hsz
  have HI1 : Hid ((Try.prog.info? 24).map (·.size) = some (nus .u8 (kS u ++ List.replicate 12 0)).toArray.size) := i16
  have HI2 : Hid ((Try.prog.info? 24).map (·.size) = some (nus .u8 (kD ++ List.replicate 12 0)).toArray.size) := i16
  have v1 : (nus .u8 (kS u ++ List.replicate 12 0)).toArray.size = 16 := rfl
  have v2 : (nus .u8 (kD ++ List.replicate 12 0)).toArray.size = 16 := rfl
  have HS1 := Lib.hid (show 2 + (nus .u8 (kS u ++ List.replicate 12 0)).toArray.size ≤ (((kc.setIfInBounds 0 (.int .u8 17)).setIfInBounds 1 (.bool v)).setIfInBounds 18 (.bool v)).size by rw [s3, v1]; omega)
  go_wp2_with (((with_reducible refine wpList_part_store (op := ⟨none, .store 24 (.tmp 35) (.tmp 33), _, _, _, _⟩) ?pg1 24 (.tmp 35) (.tmp 33) ?po1 2 (nus .u8 (kS u ++ List.replicate 12 0)).toArray ?px1 ?py1 A3.out HS1.out HI1.out (nus_all _) ?_); (case pg1 => rfl); (case po1 => rfl); (case px1 => rfl); (case py1 => rfl)))
  intro W4 hA hF hB
  have K4 := Lib.hid ((((K2.out.setCell (p := ⟨w.heap.size + 1, 0, none⟩) (Nat.le_succ _) (.int .u8 17)).setCell (p := ⟨w.heap.size + 1, 1, none⟩) (Nat.le_succ _) (.bool v)).setCell (p := ⟨w.heap.size + 1, 18, none⟩) (Nat.le_succ _) (.bool v)).trans (hB _ (Nat.le_succ _)))
  have R4 := Lib.hid (show Blk W4 w.heap.size 29 #[Value.int .u8 0, .bool false, .int .u8 0, .int .u8 0, .int .u8 0, .int .u8 0, .int .u8 0, .int .u8 0, .int .u8 0, .int .u8 0, .int .u8 0, .int .u8 0, .int .u8 0, .int .u8 0, .int .u8 0, .int .u8 0, .int .u8 0, .int .u8 0, .bool false, .int .u8 0, .int .u8 0, .int .u8 0, .int .u8 0, .int .u8 0, .int .u8 0, .int .u8 0, .int .u8 0, .int .u8 0, .int .u8 0, .int .u8 0, .int .u8 0, .int .u8 0, .int .u8 0, .int .u8 0, .int .u8 0, .int .u16 0, .int .u16 0] from (hF _ (by omega)).trans ((((R2.out.far (p := ⟨w.heap.size + 1, 0, none⟩) (by simp) (.int .u8 17)).far (p := ⟨w.heap.size + 1, 1, none⟩) (by simp) (.bool v)).far (p := ⟨w.heap.size + 1, 18, none⟩) (by simp) (.bool v))))
  have A4 := Lib.hid hA
  have s4 : (setL (((kc.setIfInBounds 0 (.int .u8 17)).setIfInBounds 1 (.bool v)).setIfInBounds 18 (.bool v)) 2 (nus .u8 (kS u ++ List.replicate 12 0)).toArray.toList).size = 37 := by rw [setL_size]; exact s3
  have HS2 := Lib.hid (show 19 + (nus .u8 (kD ++ List.replicate 12 0)).toArray.size ≤ (setL (((kc.setIfInBounds 0 (.int .u8 17)).setIfInBounds 1 (.bool v)).setIfInBounds 18 (.bool v)) 2 (nus .u8 (kS u ++ List.replicate 12 0)).toArray.toList).size by rw [s4, v2]; omega)
  clear hA hF hB A3 R2 K2 c0 c1 c18 f0 f1 f18 v1 v2 s3 s4 HS1 HI1
  go_wp2_with (((with_reducible refine wpList_part_store (op := ⟨none, .store 24 (.tmp 38) (.tmp 36), _, _, _, _⟩) ?pg2 24 (.tmp 38) (.tmp 36) ?po2 19 (nus .u8 (kD ++ List.replicate 12 0)).toArray ?px2 ?py2 A4.out HS2.out HI2.out (nus_all _) ?_); (case pg2 => rfl); (case po2 => rfl); (case px2 => rfl); (case py2 => rfl)))
  intro W5 hA hF hB
  have K5 := Lib.hid (K4.out.trans (hB _ (Nat.le_succ _)))
  have R5 := Lib.hid (show Blk W5 w.heap.size 29 #[Value.int .u8 0, .bool false, .int .u8 0, .int .u8 0, .int .u8 0, .int .u8 0, .int .u8 0, .int .u8 0, .int .u8 0, .int .u8 0, .int .u8 0, .int .u8 0, .int .u8 0, .int .u8 0, .int .u8 0, .int .u8 0, .int .u8 0, .int .u8 0, .bool false, .int .u8 0, .int .u8 0, .int .u8 0, .int .u8 0, .int .u8 0, .int .u8 0, .int .u8 0, .int .u8 0, .int .u8 0, .int .u8 0, .int .u8 0, .int .u8 0, .int .u8 0, .int .u8 0, .int .u8 0, .int .u8 0, .int .u16 0, .int .u16 0] from (hF _ (by omega)).trans R4.out)
  rw [HK.out] at hA
  have hA5 : Blk W5 (w.heap.size + 1) 29 (kcells 17 (cellsA v (kS u ++ List.replicate 12 0)) (cellsA v (kD ++ List.replicate 12 0)) sp 80) := by
    rw [← key_fin17 u sp v]
    exact hA
  have A5 := Lib.hid hA5
  have y1 := kcells_size 17 (cellsA v (kS u ++ List.replicate 12 0)) (cellsA v (kD ++ List.replicate 12 0)) sp 80 rfl rfl
  have y2 := kcells_all 17 (cellsA v (kS u ++ List.replicate 12 0)) (cellsA v (kD ++ List.replicate 12 0)) sp 80 (cellsA_all _ _) (cellsA_all _ _)
  have E9 : Hid (_ = _) := show kcells 17 (cellsA v (kS u ++ List.replicate 12 0)) (cellsA v (kD ++ List.replicate 12 0)) sp 80 = _ from rfl
  clear hA hF hB hA5 A4 R4 K4 HS2 HI2
  generalize hfin : kcells 17 (cellsA v (kS u ++ List.replicate 12 0)) (cellsA v (kD ++ List.replicate 12 0)) sp 80 = fin at A5 y1 y2 E9
  have HFIN := Lib.hid hfin
  have Z5 := Lib.hid (i42.trans (congrArg some y1.symm))
  have Z6 : Hid (fin.size = Array.size (#[Value.int .u8 0, .bool false, .int .u8 0, .int .u8 0, .int .u8 0, .int .u8 0, .int .u8 0, .int .u8 0, .int .u8 0, .int .u8 0, .int .u8 0, .int .u8 0, .int .u8 0, .int .u8 0, .int .u8 0, .int .u8 0, .int .u8 0, .int .u8 0, .bool false, .int .u8 0, .int .u8 0, .int .u8 0, .int .u8 0, .int .u8 0, .int .u8 0, .int .u8 0, .int .u8 0, .int .u8 0, .int .u8 0, .int .u8 0, .int .u8 0, .int .u8 0, .int .u8 0, .int .u8 0, .int .u8 0, .int .u16 0, .int .u16 0] : Array Value)) := y1
  have AL := Lib.hid y2
  clear hfin y1 y2 E9
  go_wp2_with (first | ((with_reducible refine wpList_blk_load (op := ⟨some 39, .load 29 (.tmp 8), _, _, _, _⟩) ?lg2 29 (.tmp 8) ?lo2 ((w.heap.size + 1)) ?lx2 _ A5.out Try.underlying29 ?ld2 Z5.out ?_); (case lg2 => rfl); (case lo2 => rfl); (case lx2 => rfl); (case ld2 => rfl)) | ((with_reducible refine wpList_blk_store (op := ⟨none, .store 29 (.tmp 6) (.tmp 39), _, _, _, _⟩) ?sg3 29 (.tmp 6) (.tmp 39) ?so3 (w.heap.size) fin ?sx3 ?sy3 R5.out Z6.out Z5.out AL.out ?_); (case sg3 => rfl); (case so3 => rfl); (case sx3 => rfl); (case sy3 => rfl)))
  intro W6 hA hF hB
  have K6 := Lib.hid (K5.out.trans (hB _ (Nat.le_refl _)))
  have HA := Lib.hid hA
  clear hA hF hB
  go_wp2
  have hrun := run_blk_load (P := Try.prog) 29 w.heap.size _ HA.out Try.underlying29 rfl Z5.out
  exact bodyPost_ret (results_cell 6 29 w.heap.size _ Try.results17 rfl hrun) rfl ⟨by rw [HFIN.out], K6.out⟩
theorem key_any (n : Int) (v udp : Bool) (w : World) :
    Calls Try.prog 17 #[.int .i64 n, .bool v, .bool udp] w fun e w' => e = .returned (.agg (kcells (if udp then 17 else 6) (cellsA v (kS (n % 1073741824).toNat ++ List.replicate 12 0)) (cellsA v (kD ++ List.replicate 12 0)) (1000 + (n % 1073741824).toNat % 50000) 80)) ∧ Below w.heap.size w w' := by
  have hu : n % 1073741824 = (((n % 1073741824).toNat : Nat) : Int) := by omega
  have hl : (n % 1073741824).toNat < 1073741824 := by omega
  cases udp with
  | true => exact key_udp n v _ _ w hu hl rfl
  | false => exact key_tcp n v _ _ w hu hl rfl
end Go.Proofs.Ytopfbgoiehlhbaa

/- bazaaralike.Dip. -/
namespace Go.Proofs.Ytopfbgoiehlhbaa
open Go.RowKit

/-- The bytes of a server's address. -/
def dB (m : Nat) : List Nat := [172, 16, 0, 1 + m]
/-- The cells of a server. -/
def dcells (A : Array Value) (p : Nat) : Array Value := (A.toList ++ [Value.int .u16 (p : Int)]).toArray
theorem dcells_size (A : Array Value) (p : Nat) (h : A.size = 17) : (dcells A p).size = 18 := by simp [dcells, h]
theorem dcells_all (A : Array Value) (p : Nat) (h : A.all (·.oneCell') = true) : (dcells A p).all (·.oneCell') = true := by
  rw [Array.all_eq_true_iff_forall_mem] at *
  intro x hx
  simp only [dcells, List.mem_toArray, List.mem_append, Array.mem_toList_iff, List.mem_singleton] at hx
  rcases hx with h' | rfl
  · exact h x h'
  · rfl
theorem dip_fin (m p : Nat) (v : Bool) : setL ((dcells (cellsA false z16) p).setIfInBounds 0 (.bool v)) 1 (nus .u8 (dB m ++ List.replicate 12 0)).toArray.toList = dcells (cellsA v (dB m ++ List.replicate 12 0)) p := by
  kernel_rfl
end Go.Proofs.Ytopfbgoiehlhbaa

/- The field of a value. Nothing of the program. -/
namespace Go.Proofs.Ytopfbgoiehlhbaa
open Go.RowKit
theorem exec_field {P : Program} {w : World} {o : Oper} {a : Act} (t : TypeId) (x : Operand) (k : Nat) (ho : o.op = .field t x k) (v u : Value) (hx : a.eval x = v) (hf : (Instr.field t v k).run P w = .ok u w) : (execOp a.eval o).run P w = .ok (.value u) w := by
  unfold execOp
  simp only [ho, hx, Sem.run_bind, hf, Result.andThen_ok, Sem.run_pure]
theorem wpList_field_want {P : Program} {ops : Array Oper} {rest : List Oper} {op : Oper} {a : Act} {w : World} {Q : Exit → Act → World → Prop} (hw : Region.wanted op (yielded ops a.tmps) = true) (t : TypeId) (x : Operand) (k : Nat) (ho : op.op = .field t x k)
    (v u : Value) (hx : a.eval x = v) (hf : (Instr.field t v k).run P w = .ok u w) (h : wpList P ops Q rest (a.put op.dst u) w) : wpList P ops Q (op :: rest) a w :=
  BigFrame.wpList_want hw fun K hK => by
    unfold Oper.wp
    simp only [exec_field t x k ho v u hx hf]
    exact hK _ _ h
end Go.Proofs.Ytopfbgoiehlhbaa

/- Parts of a flow's cells, and of a server's. -/
namespace Go.Proofs.Ytopfbgoiehlhbaa
open Go.RowKit

theorem kcells_src (p : Nat) (S D : Array Value) (sp dp : Nat) : ((kcells p S D sp dp).toList.drop 1).take S.toList.length = S.toList := by
  unfold kcells
  simp
theorem kcells_dst (p : Nat) (S D : Array Value) (sp dp : Nat) (hS : S.size = 17) : ((kcells p S D sp dp).toList.drop 18).take D.toList.length = D.toList := by
  have e : (kcells p S D sp dp).toList.drop 18 = D.toList ++ [Value.int .u16 (sp : Int), Value.int .u16 (dp : Int)] := by
    unfold kcells
    show (S.toList ++ (D.toList ++ [Value.int .u16 (sp : Int), Value.int .u16 (dp : Int)])).drop 17 = _
    have : S.toList.length = 17 := by simpa using hS
    rw [← this, List.drop_left]
  rw [e, List.take_left]
theorem cells17 (c : Array Value) (h : c.size = 17) : ∃ x0 x1 x2 x3 x4 x5 x6 x7 x8 x9 x10 x11 x12 x13 x14 x15 x16, c = #[x0, x1, x2, x3, x4, x5, x6, x7, x8, x9, x10, x11, x12, x13, x14, x15, x16] := by
  obtain ⟨l⟩ := c
  match l, h with
  | [x0, x1, x2, x3, x4, x5, x6, x7, x8, x9, x10, x11, x12, x13, x14, x15, x16], _ => exact ⟨x0, x1, x2, x3, x4, x5, x6, x7, x8, x9, x10, x11, x12, x13, x14, x15, x16, rfl⟩
end Go.Proofs.Ytopfbgoiehlhbaa

/- Frames in plain numbers: where their layers stand, what is wrong with one, the view. Nothing of the program. -/
namespace Go.Proofs.Ytopfbgoiehlhbaa
open Go.RowKit

theorem net_ok (zs : List Nat) (h : (net zs).2.2 = 0) : ((net zs).1 = 14 ∨ (net zs).1 = 18) ∧ (net zs).1 ≤ zs.length ∧ ((net zs).2.1 = 2048 ∨ (net zs).2.1 = 34525) := by
  unfold net netK at h ⊢
  split at h
  · simp at h
  · rename_i h14
    rw [if_neg h14]
    split at h
    · rename_i hv
      rw [if_pos hv]
      split at h
      · simp at h
      · rename_i h18
        rw [if_neg h18]
        split at h
        · rename_i hk
          rw [if_pos hk]
          exact ⟨.inr rfl, Nat.le_of_not_lt h18, hk⟩
        · simp at h
    · rename_i hv
      rw [if_neg hv]
      split at h
      · rename_i hk
        rw [if_pos hk]
        exact ⟨.inl rfl, Nat.le_of_not_lt h14, hk⟩
      · simp at h
theorem net_lt (zs : List Nat) : (net zs).1 ≤ 18 ∧ (net zs).2.2 < 7 := by
  unfold net netK
  repeat' split
  all_goals simp

/-- The inner header: as it stands, what is wrong with it, how far it reaches, where all ends, the protocol, the addresses. -/
def fhd (six : Bool) (T : List Nat) : Array Value := if six then rd6 T else hd T
def fhr (six : Bool) (T : List Nat) : Nat := if six then f6 T else ff T
def fS (six : Bool) (T : List Nat) : Nat := if six then 40 else hs T
def fL (six : Bool) (T : List Nat) : Nat := if six then 40 + u2 T 4 else u2 T 2
def fP (six : Bool) (T : List Nat) : Nat := if six then T.getD 6 0 else T.getD 9 0
def fA (six : Bool) (T : List Nat) : Array Value := if six then srcA T else a4 ((T.drop 12).take 4)
def fB (six : Bool) (T : List Nat) : Array Value := if six then dstA T else a4 ((T.drop 16).take 4)
theorem fA_all (six : Bool) (T : List Nat) : (fA six T).all (·.oneCell') = true := by unfold fA; split; exact cellsA_all _ _; exact a4_all _
theorem fB_all (six : Bool) (T : List Nat) : (fB six T).all (·.oneCell') = true := by unfold fB; split; exact cellsA_all _ _; exact a4_all _
theorem fhd_size (six : Bool) (T : List Nat) : (fhd six T).size = 37 := by
  unfold fhd; split
  · exact rd6_size T
  · unfold hd; split
    · exact hcells_size _ _ _ _ _ (a4_size _ (by simp; omega)) (a4_size _ (by simp; omega))
    · exact h0_size
theorem fhd_all (six : Bool) (T : List Nat) : (fhd six T).all (·.oneCell') = true := by
  unfold fhd; split
  · exact rd6_all T
  · unfold hd; split
    · exact hcells_all _ _ _ _ _ (a4_all _) (a4_all _)
    · exact h0_all
theorem fhr_lt (six : Bool) (T : List Nat) : fhr six T < 7 := by unfold fhr; split; exact f6_lt T; exact ff_lt T
structure Head (six : Bool) (T : List Nat) : Prop where
  hd : fhd six T = hcells (fS six T) (fL six T) (fP six T) (fA six T) (fB six T)
  sA : (fA six T).size = 17
  sB : (fB six T).size = 17
  low : 20 ≤ fS six T
  mid : fS six T ≤ fL six T
  high : fL six T ≤ T.length
  pr : fP six T = 6 ∨ fP six T = 17
theorem fhd_yes (six : Bool) (T : List Nat) (h : fhr six T = 0) : Head six T := by
  cases six with
  | true =>
    have h : f6 T = 0 := h
    obtain ⟨h40, -, hl, hp⟩ := f6_yes T h
    obtain ⟨sS, sD⟩ := ad_size T h40
    refine ⟨?_, sS, sD, ?_, ?_, hl, hp⟩
    · show rd6 T = _
      unfold rd6; rw [if_pos h]; rfl
    · show 20 ≤ 40; omega
    · show 40 ≤ 40 + u2 T 4; omega
  | false =>
    have h : ff T = 0 := h
    obtain ⟨h20, -, hs20, hsl, hl, -, -, hp⟩ := ff_yes T h
    refine ⟨?_, a4_size _ (by simp; omega), a4_size _ (by simp; omega), hs20, hsl, hl, hp⟩
    show hd T = _
    unfold hd; rw [if_pos h]; rfl
/-- Whether it is of IPv6; the packet; the segment. -/
def sixF (zs : List Nat) : Bool := decide ((net zs).2.1 ≠ 2048)
def pkt (zs : List Nat) : List Nat := zs.drop (net zs).1
def sgm (zs : List Nat) : List Nat := (zs.drop ((net zs).1 + fS (sixF zs) (pkt zs))).take (fL (sixF zs) (pkt zs) - fS (sixF zs) (pkt zs))
/-- The reason, or 0. -/
def rr (zs : List Nat) : Nat :=
  if (net zs).2.2 ≠ 0 then (net zs).2.2
  else if fhr (sixF zs) (pkt zs) ≠ 0 then fhr (sixF zs) (pkt zs)
  else fs (fP (sixF zs) (pkt zs)) (sgm zs)
/-- A view's cells. -/
def vcells (six : Bool) (n s e : Nat) (kc : Array Value) (f : Nat) : Array Value := (Value.bool six :: .int .i64 (n : Int) :: .int .i64 (s : Int) :: .int .i64 (e : Int) :: (kc.toList ++ [.int .u8 (f : Int)])).toArray
theorem vcells_size (six : Bool) (n s e : Nat) (kc : Array Value) (f : Nat) (h : kc.size = 37) : (vcells six n s e kc f).size = 42 := by simp [vcells, h]
theorem vcells_all (six : Bool) (n s e : Nat) (kc : Array Value) (f : Nat) (h : kc.all (·.oneCell') = true) : (vcells six n s e kc f).all (·.oneCell') = true := by
  rw [Array.all_eq_true_iff_forall_mem] at *
  intro x hx
  simp only [vcells, List.mem_toArray, List.mem_cons, List.mem_append, Array.mem_toList_iff, List.not_mem_nil, or_false] at hx
  rcases hx with rfl | rfl | rfl | rfl | hx | rfl
  · rfl
  · rfl
  · rfl
  · rfl
  · exact h x hx
  · rfl
def v0 : Array Value := vcells false 0 0 0 (kcells 0 (cellsA false (List.replicate 16 0)) (cellsA false (List.replicate 16 0)) 0 0) 0
theorem v0_size : v0.size = 42 := rfl
theorem v0_all : v0.all (·.oneCell') = true := vcells_all _ _ _ _ _ _ (kcells_all _ _ _ _ _ (cellsA_all _ _) (cellsA_all _ _))
/-- The key that a frame tells. -/
def keyF (zs : List Nat) : Array Value := kcells (fP (sixF zs) (pkt zs)) (fA (sixF zs) (pkt zs)) (fB (sixF zs) (pkt zs)) (u2 (sgm zs) 0) (u2 (sgm zs) 2)
def vw (zs : List Nat) : Array Value :=
  if rr zs = 0 then vcells (sixF zs) (net zs).1 ((net zs).1 + fS (sixF zs) (pkt zs)) ((net zs).1 + fL (sixF zs) (pkt zs)) (keyF zs) (fl (fP (sixF zs) (pkt zs)) (sgm zs))
  else v0
end Go.Proofs.Ytopfbgoiehlhbaa

/- append of so many zeros to a row of bytes of the call's own ('append(row, make([]byte, k)...)'). -/
namespace Go.Proofs.Ytopfbgoiehlhbaa
open Go.RowKit

theorem zeroCells_one (v : Value) (k : Nat) : (Builtin.zeroCells #[v] k).toList = List.replicate k v := by
  unfold Builtin.zeroCells
  apply List.ext_getElem
  · simp
  · intro i h1 h2
    simp [Nat.mod_one]
theorem run_app_zeros (w : World) (ty base : Nat) (g n cap k : Nat) (xs : List Value) (hown : w.ownsRow base 5 1 (.slice (some ⟨g, 0, none⟩) n cap) n xs) (h0 : 0 < k) (hn : n + k ≤ 1000000) (hbase : base ≤ w.heap.size) :
    ∃ v' w', (Builtin.append_ #[22, 3] ty #[.slice (some ⟨g, 0, none⟩) n cap, .int .i64 (k : Int)]).run Try.prog w = .ok v' w' ∧ w'.ownsRow base 5 1 v' (n + k) (xs ++ List.replicate k (Value.int .u8 0)) ∧ w.grownBy w' (some g) := by
  obtain ⟨i, hi, hz, hs, hby⟩ := info_parts Try.info5
  have ht : Try.prog.underlying 22 = some (.slice 5) := Try.underlying22
  have htn : Try.prog.underlying 3 = some (.int .i64) := Try.underlying3
  have hzc : (Value.int .u8 0).cells = #[.int .u8 0] := rfl
  have hown0 := hown
  obtain ⟨hxl, ⟨h1, -⟩ | ⟨g', cap', cur, hv, hbg, hg, hnc, hcm, hcs, htake⟩⟩ := hown
  · cases h1
  cases hv
  simp only [Nat.mul_one] at hxl hcs htake
  by_cases hroom : n + k ≤ cap
  · have hst := run_storeCells_at Try.prog g n 5 (List.replicate k (.int .u8 0)) 0 cur w hg (by simp; omega) (by intro u hu; rw [(List.mem_replicate.1 hu).2]; rfl)
    simp only [Nat.add_zero] at hst
    have hw : IntKind.i64.wrap (k : Int) = k := by rw [IntKind.wrap_i64]; omega
    have hneg : ¬ ((k : Int) < 0) := by omega
    have h48 : ¬ (281474976710656 < (k : Int)) := by omega
    have hk : k ≠ 0 := by omega
    have hr : (Builtin.append_ #[22, 3] ty #[.slice (some ⟨g, 0, none⟩) n cap, .int .i64 (k : Int)]).run Try.prog w = .ok (.slice (some ⟨g, 0, none⟩) (n + k) cap) (w.setRow g (cur.toList.take n ++ List.replicate k (Value.int .u8 0) ++ cur.toList.drop (n + (List.replicate k (Value.int .u8 0)).length)).toArray) := by
      simp [Builtin.append_, run_underlying ht, run_underlying htn, sizeOf, typeInfo, zeroValue, hi, hz, hs, hby, asInt, asIntOf, hw, hneg, h48, hk, hroom, hzc, zeroCells_one, Addr.add_lit]
      simp [hst]

    refine ⟨_, _, hr, ⟨by simp [hxl], .inr ⟨g, cap, _, rfl, hbg, setRow_heap w g cur _ 5 _ hg, hroom, hcm, ?_, ?_⟩⟩, ⟨rfl, rfl, rfl, by simp, fun q _ hq => setRow_other w g q _ (fun e => hq (by rw [e]))⟩⟩
    · simp; omega
    · rw [htake, Nat.mul_one, List.take_append_of_le_length (by simp [hxl]), List.take_of_length_le (by simp [hxl])]
  · have hf := run_firstCells_some (P := Try.prog) w.drew 1 n ⟨g, 0, none⟩ n cap xs (by simpa using hxl) (fun j u hu => hown0.cells (g := g) rfl j u hu)
    have hfit := growslice_fits (need := n + k) (old := cap) (bytes := i.bytes) (by omega) (by rw [hby]; omega)
    have hr := Lib.run_append_grow_zeros (P := Try.prog) w 22 3 ty 5 i (.int .u8 0) .i64 .i64 ht htn hi hz (some ⟨g, 0, none⟩) n cap xs (by rw [hs]; exact hf) k h0 (by omega) (by omega) (by omega) (by rw [hby]; omega) hfit
    have hge := grownCap_ge w (n + k) cap 5
    have hcm2 : grownCap w (n + k) cap 5 ≤ maxLen := grownCap_le_maxLen w (n + k) cap 5 (by unfold maxLen; omega)
    refine ⟨_, _, hr, ⟨by simp [hxl], .inr ⟨w.heap.size, _, _, rfl, hbase, heap_alloc_new w.drew _, hge, hcm2, ?_, ?_⟩⟩, ⟨rfl, rfl, rfl, by simp, fun q hq _ => heap_alloc_old w.drew _ hq⟩⟩
    · simp only [Array.size_append, List.size_toArray, size_zeroCells, hzc, hxl]
      simp
      omega
    · simp only [Array.toList_append, List.append_assoc, hzc, zeroCells_one, Nat.mul_one]
      rw [← List.append_assoc, List.take_append_of_le_length (by simp [hxl]), List.take_of_length_le (by simp [hxl])]
/-- 'append(row, make([]byte, k)...)': the row with so many zeros behind. -/
theorem wpList_zeros {w : World} {ops : Array Oper} {rest : List Oper} {o : Oper} {a : Act} {Q : Exit → Act → World → Prop} (hgd : o.guard = none) (s : Operand) (k : Nat)
    (ho : o.op = .call { callee := .builtin .append, args := #[s, .const (.int .i64 (k : Int))], argTypes := #[22, 3] })
    (base g n cap : Nat) (zs : List Nat) (hs : a.eval s = .slice (some ⟨g, 0, none⟩) n cap) (hown : w.ownsRow base 5 1 (.slice (some ⟨g, 0, none⟩) n cap) n (nus .u8 zs)) (h0 : 0 < k) (hn : n + k ≤ 1000000) (hbase : base ≤ w.heap.size)
    (h : ∀ v' w', w'.ownsRow base 5 1 v' (n + k) (nus .u8 (zs ++ List.replicate k 0)) → w.grownBy w' (some g) → wpList Try.prog ops Q rest (a.put o.dst v') w') :
    wpList Try.prog ops Q (o :: rest) a w := by
  obtain ⟨v', w', hr, h1, h2⟩ := run_app_zeros w o.type base g n cap k _ hown h0 hn hbase
  exact Lib.wpList_append_run w hgd s _ 22 3 ho _ _ hs rfl v' w' hr (h v' w' (by simpa [nus] using h1) h2)
end Go.Proofs.Ytopfbgoiehlhbaa

/- append to a row of the call's own. -/
namespace Go.Proofs.Ytopfbgoiehlhbaa
open Go.RowKit

/-- 'append(row, b...)' to a row of the call's own, under a guard that holds: the row with the numbers behind. -/
theorem wpList_app {w : World} {ops : Array Oper} {rest : List Oper} {o : Oper} {a : Act} {Q : Exit → Act → World → Prop} (hw : Region.wanted o (yielded ops a.tmps) = true) (s x : Operand)
    (ho : o.op = .call { callee := .builtin .append, args := #[s, x], argTypes := #[22, 22] })
    (base : Nat) (v : Value) (n : Nat) (zs : List Nat) (hs : a.eval s = v) (hown : w.ownsRow base 5 1 v n (nus .u8 zs))
    (ao : Option Addr) (len cap : Nat) (bs : List Nat) (hx : a.eval x = .slice ao len cap) (hr : Rd w (.slice ao len cap) (nus .u8 bs)) (hn : ao = none → cap = 0) (hlen : n + len ≤ 1000000) (hbase : base ≤ w.heap.size)
    (h : ∀ v' w', w'.ownsRow base 5 1 v' (n + len) (nus .u8 (zs ++ bs)) → w.grownBy w' v.ownBlock → wpList Try.prog ops Q rest (a.put o.dst v') w') :
    wpList Try.prog ops Q (o :: rest) a w := by
  obtain ⟨i0, hi, hz0, hz1, hz2⟩ := info_parts Try.info5
  obtain ⟨a', cap', e, h1, h2, h3⟩ := hr
  simp only [Value.slice.injEq] at e
  obtain ⟨rfl, he, rfl⟩ := e
  rw [nus_length] at he h1 h3
  subst he
  refine BigFrame.wpList_want hw fun K hK => ?_
  cases ao with
  | none =>
    obtain rfl := hn rfl
    have hb : bs = [] := by cases bs with | nil => rfl | cons _ _ => simp at h1
    subst hb
    have hrun := run_append_owned_none (P := Try.prog) (w := w) base 22 o.type 5 i0 1 Try.underlying22 hi v n (nus .u8 zs) hown
    unfold Oper.wp
    simp [execOp, ho, resolve, invoke, builtin, hs, hx, hrun, Result.andThen]
    exact hK _ _ (h v w (by simpa using hown) (World.grownBy.refl _ _))
  | some ad =>
    refine wp_append_own w s x 22 ho base 5 i0 (.int .u8 0) 1 1 Try.underlying22 hi hz0 hz1 hz2 rfl (by decide) v n (nus .u8 zs) hs hown ad bs.length cap (nus .u8 bs) hx (by rw [nus_length]; omega) ?_ (oneCell_nus _ _) (by unfold maxLen; omega) (by omega) hbase ?_
    · intro j u hj
      rcases h3 with h3 | ⟨b, off, e, hb, hcc⟩
      · rw [h3] at hj; simp at hj
      · cases e
        have hjl : j < (nus .u8 bs).length := (List.getElem?_eq_some_iff.1 hj).1
        rw [nus_length] at hjl
        rw [← hj]
        rw [Addr.add_lit]; exact hcc j hjl
    · intro v' w' hown' hgr _
      exact hK _ _ (h v' w' (by rw [nus_append]; exact hown') hgr)
/-- A row of no elements. -/
theorem own_none (w : World) (e : TypeId) : (w.alloc (.cells #[] e)).ownsRow w.heap.size e 1 (.slice (some ⟨w.heap.size, 0, none⟩) 0 0) 0 (nus .u8 []) :=
  own_of_heap (show (w.heap.push (.cells #[] e))[w.heap.size]? = _ by simp [nus]) (Nat.le_refl _) rfl (by simp [maxLen])
end Go.Proofs.Ytopfbgoiehlhbaa

/- slices.Grow of a nil slice, slices.Concat of two rows of bytes. -/
namespace Go.Proofs.Ytopfbgoiehlhbaa
open Go.RowKit

theorem own_front {w : World} {base g cap : Nat} {e : TypeId} {cur : Array Value} (hg : w.heap[g]? = some (.cells cur e (0, 0))) (hb : base ≤ g) (hc : cur.size = cap) (hm : cap ≤ maxLen) :
    w.ownsRow base e 1 (.slice (some ⟨g, 0, none⟩) 0 cap) 0 (nus .u8 []) :=
  ⟨by simp [nus], .inr ⟨g, cap, cur, rfl, hb, hg, Nat.zero_le _, hm, by simpa using hc, by simp [nus]⟩⟩

set_option maxRecDepth 100000 in
set_option maxHeartbeats 1000000 in
theorem grow_nil (n : Nat) (w : World) (h0 : 0 < n) (hn : n ≤ 1000000) :
    Calls Try.prog 75 #[.slice none 0 0, .int .i64 (n : Int)] w fun e w' => ∃ x, e = .returned x ∧ w'.ownsRow w.heap.size 5 1 x 0 (nus .u8 []) ∧ Below w.heap.size w w' := by
  obtain ⟨i, hi, hz, hs, hby⟩ := info_parts Try.info5
  have hr := Lib.hid (Lib.run_append_nil_zeros (P := Try.prog) w 22 3 22 5 i (.int .u8 0) .i64 .i64 Try.underlying22 Try.underlying3 hi hz n h0 (by omega) (by omega) (by rw [hby]; omega))
  have hcm := grownCap_le_maxLen w n 0 5 (by unfold maxLen; omega)
  have hge := grownCap_ge w n 0 5
  have hsz : (Builtin.zeroCells (Value.int .u8 0).cells n ++ Builtin.zeroCells (Value.int .u8 0).cells (grownCap w n 0 5 - n)).size = grownCap w n 0 5 := by
    rw [Array.size_append, size_zeroCells, size_zeroCells]
    show n * 1 + (grownCap w n 0 5 - n) * 1 = _
    omega
  generalize Builtin.zeroCells (Value.int .u8 0).cells n ++ Builtin.zeroCells (Value.int .u8 0).cells (grownCap w n 0 5 - n) = cur at *
  have hown := Lib.hid (own_front (base := w.heap.size) (heap_alloc_new w.drew (.cells cur 5)) (Nat.le_refl _) hsz hcm)
  have hbel := Lib.hid ((Below.refl w.heap.size w).drew.alloc (Nat.le_refl _) (.cells cur 5))
  generalize grownCap w n 0 5 = cap at *
  unfold maxLen at hcm
  clear hi hz hs hby hsz
  have hd1 : decide ((n : Int) < 0) = false := decide_eq_false (by omega)
  have hd2 : decide (0 < n) = true := decide_eq_true (by omega)
  go_enter Try.func75, Try.ntmps75
  go_wp2_with (refine Lib.wpList_append_run _ rfl (.tmp 20) (.tmp 21) 22 3 rfl _ _ rfl rfl _ _ hr.out ?_)
  go_wp2
  go_ret
  exact ⟨_, rfl, hown.out, hbel.out⟩

/-- How far the sizes are added up. -/
def cs2 (n1 n2 : Nat) : Nat → Nat
  | 0 => 0
  | 1 => n1
  | _ => n1 + n2

/-- How far the rows are joined. -/
def cr2 (xs ys : List Nat) : Nat → List Nat
  | 0 => []
  | 1 => xs
  | _ => xs ++ ys

set_option maxRecDepth 100000 in
set_option maxHeartbeats 2000000 in
theorem concat_two (b : Nat) (a1 a2 : Option Addr) (n1 c1 n2 c2 : Nat) (xs ys : List Nat) (w : World)
    (hc0 : w.cell? ⟨b, 0, none⟩ = some (.slice a1 n1 c1)) (hc1 : w.cell? ⟨b, 0 + 1, none⟩ = some (.slice a2 n2 c2)) (h1 : Rd w (.slice a1 n1 c1) (nus .u8 xs)) (h2 : Rd w (.slice a2 n2 c2) (nus .u8 ys))
    (hx : xs.length = n1) (hy : ys.length = n2) (h0 : 0 < n1) (h02 : 0 < n2) (hl1 : n1 ≤ 1000) (hl2 : n2 ≤ 1000) :
    Calls Try.prog 60 #[.slice (some ⟨b, 0, none⟩) 2 2] w fun e w' => ∃ x, e = .returned x ∧ w'.ownsRow w.heap.size 5 1 x (n1 + n2) (nus .u8 (xs ++ ys)) ∧ Below w.heap.size w w' := by
  have hb : b < w.heap.size := by
    rcases Nat.lt_or_ge b w.heap.size with h | h
    · exact h
    · simp [World.cell?, Array.getElem?_eq_none h] at hc0
  have K := Lib.hid (Below.refl w.heap.size w)
  have C0 := Lib.hid hc0
  have C1 := Lib.hid hc1
  have H1 := Lib.hid h1
  have H2 := Lib.hid h2
  have HN1 : Hid (a1 = none → c1 = 0) := by
    intro e; subst e
    obtain ⟨a', c', e', q1, q2, q3⟩ := h1
    cases e'
    rcases q3 with q3 | ⟨b', o', q3, -⟩
    · exfalso; rw [nus_nil] at q3; subst q3; simp [nus] at h0
    · cases q3
  have HN2 : Hid (a2 = none → c2 = 0) := by
    intro e; subst e
    obtain ⟨a', c', e', q1, q2, q3⟩ := h2
    cases e'
    rcases q3 with q3 | ⟨b', o', q3, -⟩
    · exfalso; rw [nus_nil] at q3; subst q3; simp [nus] at h02
    · cases q3
  have HX := Lib.hid hx
  have HY := Lib.hid hy
  clear h1 h2 hx hy hc0 hc1
  go_enter Try.func60, Try.ntmps60
  go_wp2_with fail
  go_loop [3, 11] (fun s i => ∃ j : Nat, j ≤ 2 ∧ i = .int .i64 (j : Int) ∧ s = .int .i64 (cs2 n1 n2 j : Nat)) (fun _ i => 2 - (intOf i).toNat)
  case atStart => exact ⟨0, by omega, rfl, rfl⟩
  case round =>
    obtain ⟨j, hj, rfl, rfl⟩ := hrel
    have hj3 : j = 0 ∨ j = 1 ∨ j = 2 := by omega
    rcases hj3 with rfl | rfl | rfl
    · have c0 := C0.out
      unfold cs2
      go_wp2
      go_round
      case rel => exact ⟨1, by omega, rfl, rfl⟩
      case measure => simp [intOf]
    · have c1 := C1.out
      unfold cs2
      go_wp2
      go_round
      case rel => exact ⟨2, by omega, rfl, rfl⟩
      case measure => simp [intOf]
    · have hcs : Hid (cs2 n1 n2 2 = n1 + n2) := rfl
      rw [hcs.out]
      clear hj
      have hd1 : decide ((n1 : Int) + (n2 : Int) < 0) = false := decide_eq_false (by omega)
      go_wp2_with fail
      have CG := grow_nil (n1 + n2) w (by omega) (by omega)
      rw [show ((n1 + n2 : Nat) : Int) = (n1 : Int) + (n2 : Int) from Int.natCast_add _ _] at CG
      refine CG.mono ?_; rintro e w1 ⟨x, rfl, ho, hbw⟩
      clear CG hd1
      have O := Lib.hid ho
      have B := Lib.hid hbw
      clear ho hbw
      go_wp2_with fail
      go_loopw [6, 27] (fun s i wr => ∃ j : Nat, j ≤ 2 ∧ i = .int .i64 (j : Int) ∧ wr.ownsRow w.heap.size 5 1 s (cs2 n1 n2 j) (nus .u8 (cr2 xs ys j)) ∧ Below w.heap.size w wr) (fun _ i _ => 2 - (intOf i).toNat)
      case atStart => exact ⟨0, by omega, rfl, O.out, B.out⟩
      case round =>
        obtain ⟨j, hj, rfl, ho, hbw⟩ := hrel
        have OJ := Lib.hid ho
        have BJ := Lib.hid hbw
        clear ho hbw
        have hj3 : j = 0 ∨ j = 1 ∨ j = 2 := by omega
        rcases hj3 with rfl | rfl | rfl
        · have c0 := (BJ.out.cell (p := ⟨b, 0, none⟩) hb).trans C0.out
          have OK : wr.ownsRow w.heap.size 5 1 u6 (0) (nus .u8 ([])) := OJ.out
          have O1 := Lib.hid OK
          have R1 := Lib.hid (H1.out.below BJ.out)
          have b0 := BJ.out.size
          clear OJ OK
          go_wp2_with (at_builtin; refine wpList_app rfl (.tmp 31) (.tmp 32) rfl w.heap.size _ (0) ([]) rfl O1.out (a1) (n1) (c1) (xs) rfl R1.out HN1.out ?x0a ?x0b ?x0c)
          case x0a => omega
          case x0b => exact b0
          intro v2 w2 o2 g2
          have K2 := Lib.hid (BJ.out.grown g2 BJ.out.size (fun k e => (O1.out.lt k e).1))
          have O2 := Lib.hid o2
          clear o2 g2 c0
          go_wp2
          go_roundw
          case rel => exact ⟨1, by omega, rfl, O2.out, K2.out⟩
          case measure => simp [intOf]
        · have c0 := (BJ.out.cell (p := ⟨b, 0 + 1, none⟩) hb).trans C1.out
          have OK : wr.ownsRow w.heap.size 5 1 u6 (n1) (nus .u8 (xs)) := OJ.out
          have O1 := Lib.hid OK
          have R1 := Lib.hid (H2.out.below BJ.out)
          have b0 := BJ.out.size
          clear OJ OK
          go_wp2_with (at_builtin; refine wpList_app rfl (.tmp 31) (.tmp 32) rfl w.heap.size _ (n1) (xs) rfl O1.out (a2) (n2) (c2) (ys) rfl R1.out HN2.out ?x1a ?x1b ?x1c)
          case x1a => omega
          case x1b => exact b0
          intro v2 w2 o2 g2
          have K2 := Lib.hid (BJ.out.grown g2 BJ.out.size (fun k e => (O1.out.lt k e).1))
          have O2 := Lib.hid o2
          clear o2 g2 c0
          go_wp2
          go_roundw
          case rel => exact ⟨2, by omega, rfl, O2.out, K2.out⟩
          case measure => simp [intOf]
        · have OK : wr.ownsRow w.heap.size 5 1 u6 (n1 + n2) (nus .u8 (xs ++ ys)) := OJ.out
          have O1 := Lib.hid OK
          clear OJ OK hj
          go_wp2
          go_ret
          exact ⟨_, rfl, O1.out, BJ.out⟩
end Go.Proofs.Ytopfbgoiehlhbaa

