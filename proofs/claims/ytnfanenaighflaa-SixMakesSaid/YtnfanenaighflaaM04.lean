/- Texts that the walks of this seat lean on, put together: each has its own remark below. -/
import Derived.Deep.DeepCutAuto
import Derived.WalkKit
import Derived.Laws.AppendOwnNone
import Derived.BigFrame
import Derived.Test.YtnfanenaighflaaM01
import Derived.Test.YtnfanenaighflaaM02
import Derived.Test.YtnfanenaighflaaM03

/- bazaarref1.Six. -/
namespace Go.Proofs.Ytnfanenaighflaa
open Go.RowKit

/-- The cells of the document's header. -/
def rcells (s l p : Nat) (S D : Array Value) : Array Value := (Value.int .i64 (s : Int) :: .int .i64 (l : Int) :: .int .u8 (p : Int) :: (S.toList ++ D.toList)).toArray
theorem rcells_size (s l p : Nat) (S D : Array Value) (hS : S.size = 17) (hD : D.size = 17) : (rcells s l p S D).size = 37 := by simp [rcells, hS, hD]
theorem rcells_all (s l p : Nat) (S D : Array Value) (hS : S.all (·.oneCell') = true) (hD : D.all (·.oneCell') = true) : (rcells s l p S D).all (·.oneCell') = true := by
  rw [Array.all_eq_true_iff_forall_mem] at *
  intro x hx
  simp only [rcells, List.mem_toArray, List.mem_cons, List.mem_append, Array.mem_toList_iff] at hx
  rcases hx with rfl | rfl | rfl | h | h
  · rfl
  · rfl
  · rfl
  · exact hS x h
  · exact hD x h
theorem rcells_src (s l p : Nat) (S D : Array Value) : ((rcells s l p S D).toList.drop 3).take S.toList.length = S.toList := by simp [rcells]
theorem rcells_dst (s l p : Nat) (S D : Array Value) (hS : S.size = 17) : ((rcells s l p S D).toList.drop 20).take D.toList.length = D.toList := by
  have : S.toList.length = 17 := by simpa using hS
  show ((S.toList ++ D.toList).drop 17).take _ = _
  rw [← this, List.drop_left, List.take_length]
theorem rcells_get (s l p : Nat) (S D : Array Value) : (rcells s l p S D)[0]? = some (.int .i64 (s : Int)) ∧ (rcells s l p S D)[1]? = some (.int .i64 (l : Int)) ∧ (rcells s l p S D)[2]? = some (.int .u8 (p : Int)) := ⟨rfl, rfl, rfl⟩
def r0 : Array Value := rcells 0 0 0 z17 z17
theorem r0_size : r0.size = 37 := rfl
theorem r0_all : r0.all (·.oneCell') = true := rcells_all _ _ _ _ _ z17_all z17_all
/-- What is read: the cells of the document's header. -/
def rd6 (zs : List Nat) : Array Value := if f6 zs = 0 then rcells 40 (40 + u2 zs 4) (zs.getD 6 0) (srcA zs) (dstA zs) else r0
theorem rd6_size (zs : List Nat) : (rd6 zs).size = 37 := by
  unfold rd6
  split
  · rename_i h
    have := ad_size zs (f6_yes zs h).1
    exact rcells_size _ _ _ _ _ this.1 this.2
  · rfl
theorem rd6_all (zs : List Nat) : (rd6 zs).all (·.oneCell') = true := by
  unfold rd6
  split
  · exact rcells_all _ _ _ _ _ (cellsA_all _ _) (cellsA_all _ _)
  · exact r0_all
theorem i37 : (Try.prog.info? 33).map (·.size) = some 37 := by kernel_rfl
set_option maxRecDepth 100000 in
theorem built_r (s l p : Nat) (S D : Array Value) (hS : S.size = 17) (hD : D.size = 17) : Try.prog.built 33 [(0, .int .i64 (s : Int)), (1, .int .i64 (l : Int)), (2, .int .u8 (p : Int)), (3, .agg S), (4, .agg D)] = some (rcells s l p S D) := by
  obtain ⟨x0, x1, x2, x3, x4, x5, x6, x7, x8, x9, x10, x11, x12, x13, x14, x15, x16, rfl⟩ := arr17 S hS
  obtain ⟨y0, y1, y2, y3, y4, y5, y6, y7, y8, y9, y10, y11, y12, y13, y14, y15, y16, rfl⟩ := arr17 D hD
  kernel_rfl

theorem be16_b (a : Option Addr) (len cap : Nat) (k : Nat) (zs : List Nat) (w : World) (hr : Rd w (.slice a len cap) (nus .u8 zs)) (hb : ∀ c ∈ zs, c < 256) (hk : k + 2 ≤ zs.length) :
    Calls Try.prog 22 #[.slice a len cap, .int .i64 (k : Int)] w fun e w' => e = .returned (.int .i64 (u2 zs k : Nat)) ∧ Below w.heap.size w w' :=
  (be16_any a len cap k zs w hr hb hk).mono fun e w1 hh => ⟨hh.1, by obtain ⟨n, h⟩ := hh.2; rw [h]; exact below_drewN (Below.refl _ _) n⟩
set_option maxRecDepth 100000 in
set_option maxHeartbeats 1000000 in
theorem rsix_short (v : Value) (zs : List Nat) (w : World) (hr : Rd w v (nus .u8 zs)) (h40 : zs.length < 40) :
    Calls Try.prog 10 #[v] w fun e w' => e = .returned (.tuple #[.agg r0, .int .i64 1]) ∧ Below w.heap.size w w' := by
  have K := Lib.hid (Below.refl w.heap.size w)
  obtain ⟨a, cap, rfl, -, hlm⟩ := rd_shape hr
  have Y0 : Hid (r0.size = Array.size (#[Value.int .i64 0, .int .i64 0, .int .u8 0, .bool false, .int .u8 0, .int .u8 0, .int .u8 0, .int .u8 0, .int .u8 0, .int .u8 0, .int .u8 0, .int .u8 0, .int .u8 0, .int .u8 0, .int .u8 0, .int .u8 0, .int .u8 0, .int .u8 0, .int .u8 0, .int .u8 0, .bool false, .int .u8 0, .int .u8 0, .int .u8 0, .int .u8 0, .int .u8 0, .int .u8 0, .int .u8 0, .int .u8 0, .int .u8 0, .int .u8 0, .int .u8 0, .int .u8 0, .int .u8 0, .int .u8 0, .int .u8 0, .int .u8 0] : Array Value)) := r0_size
  have Z0 := Lib.hid (i37.trans (congrArg some r0_size.symm))
  have A0 := Lib.hid r0_all
  unfold maxLen at hlm
  generalize zs.length = n at *
  clear hr
  go_enter Try.func10, Try.ntmps10
  have hal := (Below.refl w.heap.size w).alloc (Nat.le_refl _) (.cells #[Value.int .i64 0, .int .i64 0, .int .u8 0, .bool false, .int .u8 0, .int .u8 0, .int .u8 0, .int .u8 0, .int .u8 0, .int .u8 0, .int .u8 0, .int .u8 0, .int .u8 0, .int .u8 0, .int .u8 0, .int .u8 0, .int .u8 0, .int .u8 0, .int .u8 0, .int .u8 0, .bool false, .int .u8 0, .int .u8 0, .int .u8 0, .int .u8 0, .int .u8 0, .int .u8 0, .int .u8 0, .int .u8 0, .int .u8 0, .int .u8 0, .int .u8 0, .int .u8 0, .int .u8 0, .int .u8 0, .int .u8 0, .int .u8 0] 33)
  replace K := Lib.hid (K.out.trans (hal.mono K.out.size))
  have HH := Lib.hid (Blk.new w 33 #[Value.int .i64 0, .int .i64 0, .int .u8 0, .bool false, .int .u8 0, .int .u8 0, .int .u8 0, .int .u8 0, .int .u8 0, .int .u8 0, .int .u8 0, .int .u8 0, .int .u8 0, .int .u8 0, .int .u8 0, .int .u8 0, .int .u8 0, .int .u8 0, .int .u8 0, .int .u8 0, .bool false, .int .u8 0, .int .u8 0, .int .u8 0, .int .u8 0, .int .u8 0, .int .u8 0, .int .u8 0, .int .u8 0, .int .u8 0, .int .u8 0, .int .u8 0, .int .u8 0, .int .u8 0, .int .u8 0, .int .u8 0, .int .u8 0])
  clear hal
  go_wp2_with (((with_reducible refine wpList_blk_store (op := ⟨none, .store 33 (.tmp 2) (.tmp 12), _, _, _, _⟩) ?sg1 33 (.tmp 2) (.tmp 12) ?so1 (w.heap.size) r0 ?sx1 ?sy1 HH.out Y0.out Z0.out A0.out ?_); (case sg1 => rfl); (case so1 => rfl); (case sx1 => rfl); (case sy1 => rfl)))
  intro V1 hA hF hB
  replace K := Lib.hid (K.out.trans (hB _ (by omega)))
  replace HH := Lib.hid hA
  clear hA hF hB
  go_wp2
  have hrun := run_blk_load (P := Try.prog) 33 w.heap.size _ HH.out Try.underlying33 rfl Z0.out
  exact bodyPost_ret (results_cell_tmp 2 33 3 w.heap.size _ Try.results10 rfl hrun) rfl ⟨rfl, K.out⟩

set_option maxRecDepth 100000 in
set_option maxHeartbeats 4000000 in
theorem rsix_long (v : Value) (zs : List Nat) (w : World) (hr : Rd w v (nus .u8 zs)) (hb : ∀ c ∈ zs, c < 256) (h40 : ¬ zs.length < 40) :
    Calls Try.prog 10 #[v] w fun e w' => e = .returned (.tuple #[.agg (rd6 zs), .int .i64 (f6 zs : Nat)]) ∧ Below w.heap.size w w' := by
  have K := Lib.hid (Below.refl w.heap.size w)
  have HR := Lib.hid hr
  obtain ⟨a, cap, rfl, hlc, hlm⟩ := rd_shape hr
  obtain ⟨b, off, rfl, hce⟩ := hr.cells (by omega)
  have C6 := hce 6 (by omega)
  have C0 := hce 0 (by omega)
  have hb0 := rd_cell C6
  rw [Nat.add_zero] at C0
  have c6 := Lib.hid C6
  have c0 := Lib.hid C0
  have HS := Lib.hid (hr.sub 8 16 (by omega))
  have HD := Lib.hid (hr.sub 24 16 (by omega))
  have CB := Lib.hid (fun W (h : Rd W (.slice (some ⟨b, off, none⟩) zs.length cap) (nus .u8 zs)) => be16_b _ _ _ 4 zs W h hb (by omega))
  have l1 : ((zs.drop 8).take 16).length = 16 := by simp; omega
  have l2 : ((zs.drop 24).take 16).length = 16 := by simp; omega
  have C1 := Lib.hid (fun w' z (hw : Rd w' z (nus .u8 ((zs.drop 8).take 16))) => rfrom_ok z true _ w' hw (.inr ⟨l1, rfl⟩))
  have C2 := Lib.hid (fun w' z (hw : Rd w' z (nus .u8 ((zs.drop 24).take 16))) => rfrom_ok z true _ w' hw (.inr ⟨l2, rfl⟩))
  rw [l1, show (zs.drop 8).take 16 ++ List.replicate (16 - 16) 0 = (zs.drop 8).take 16 from by simp, show adr true ((zs.drop 8).take 16) = .agg (srcA zs) from rfl] at C1
  rw [l2, show (zs.drop 24).take 16 ++ List.replicate (16 - 16) 0 = (zs.drop 24).take 16 from by simp, show adr true ((zs.drop 24).take 16) = .agg (dstA zs) from rfl] at C2
  obtain ⟨sS, sD⟩ := ad_size zs (by omega)
  have aS : (srcA zs).all (·.oneCell') = true := cellsA_all _ _
  have aD : (dstA zs).all (·.oneCell') = true := cellsA_all _ _
  have hx := getD_lt zs hb 0
  have hp := getD_lt zs hb 6
  have hl := u2_lt zs 4 hb
  have hh : rd6 zs = if f6 zs = 0 then rcells 40 (40 + u2 zs 4) (zs.getD 6 0) (srcA zs) (dstA zs) else r0 := rfl
  have hf : f6 zs = _ := rfl
  conv at hf => rhs; unfold f6
  rw [if_neg h40] at hf
  have HH0 := Lib.hid hh
  have HF := Lib.hid hf
  clear hh hf
  generalize rd6 zs = HV at *
  generalize f6 zs = F at *
  generalize srcA zs = S at *
  generalize dstA zs = D at *
  generalize u2 zs 4 = l at *
  generalize zs.getD 6 0 = p at *
  generalize zs.getD 0 0 = x at *
  have hbd := built_r 40 (40 + l) p S D sS sD
  have hs := rcells_size 40 (40 + l) p S D sS sD
  have ha := rcells_all 40 (40 + l) p S D aS aD
  have HG := Lib.hid (rcells_get 40 (40 + l) p S D)
  generalize rcells 40 (40 + l) p S D = H at *
  have HBD := Lib.hid hbd
  have HW := Lib.hid (show IntKind.i64.wrap (40 + (l : Int)) = ((40 + l : Nat) : Int) by rw [IntKind.wrap_i64]; omega)
  have YS : Hid (S.size = Array.size (#[Value.bool false, .int .u8 0, .int .u8 0, .int .u8 0, .int .u8 0, .int .u8 0, .int .u8 0, .int .u8 0, .int .u8 0, .int .u8 0, .int .u8 0, .int .u8 0, .int .u8 0, .int .u8 0, .int .u8 0, .int .u8 0, .int .u8 0] : Array Value)) := sS
  have ZS := Lib.hid (i24.trans (congrArg some sS.symm))
  have AS := Lib.hid aS
  have YD : Hid (D.size = Array.size (#[Value.bool false, .int .u8 0, .int .u8 0, .int .u8 0, .int .u8 0, .int .u8 0, .int .u8 0, .int .u8 0, .int .u8 0, .int .u8 0, .int .u8 0, .int .u8 0, .int .u8 0, .int .u8 0, .int .u8 0, .int .u8 0, .int .u8 0] : Array Value)) := sD
  have ZD := Lib.hid (i24.trans (congrArg some sD.symm))
  have AD := Lib.hid aD
  have YH : Hid (H.size = Array.size (#[Value.int .i64 0, .int .i64 0, .int .u8 0, .bool false, .int .u8 0, .int .u8 0, .int .u8 0, .int .u8 0, .int .u8 0, .int .u8 0, .int .u8 0, .int .u8 0, .int .u8 0, .int .u8 0, .int .u8 0, .int .u8 0, .int .u8 0, .int .u8 0, .int .u8 0, .int .u8 0, .bool false, .int .u8 0, .int .u8 0, .int .u8 0, .int .u8 0, .int .u8 0, .int .u8 0, .int .u8 0, .int .u8 0, .int .u8 0, .int .u8 0, .int .u8 0, .int .u8 0, .int .u8 0, .int .u8 0, .int .u8 0, .int .u8 0] : Array Value)) := hs
  have ZH := Lib.hid (i37.trans (congrArg some hs.symm))
  have AH := Lib.hid ha
  have YR : Hid (r0.size = Array.size (#[Value.int .i64 0, .int .i64 0, .int .u8 0, .bool false, .int .u8 0, .int .u8 0, .int .u8 0, .int .u8 0, .int .u8 0, .int .u8 0, .int .u8 0, .int .u8 0, .int .u8 0, .int .u8 0, .int .u8 0, .int .u8 0, .int .u8 0, .int .u8 0, .int .u8 0, .int .u8 0, .bool false, .int .u8 0, .int .u8 0, .int .u8 0, .int .u8 0, .int .u8 0, .int .u8 0, .int .u8 0, .int .u8 0, .int .u8 0, .int .u8 0, .int .u8 0, .int .u8 0, .int .u8 0, .int .u8 0, .int .u8 0, .int .u8 0] : Array Value)) := r0_size
  have ZR := Lib.hid (i37.trans (congrArg some r0_size.symm))
  have AR := Lib.hid r0_all
  unfold maxLen at hlm
  have h6n : (6 : Int) < (zs.length : Int) := by omega
  clear hr hb hce sS sD aS aD hs ha hbd l1 l2 C6 C0
  generalize zs.length = n at *
  go_enter Try.func10, Try.ntmps10
  have hal := (Below.refl w.heap.size w).alloc (Nat.le_refl _) (.cells #[Value.int .i64 0, .int .i64 0, .int .u8 0, .bool false, .int .u8 0, .int .u8 0, .int .u8 0, .int .u8 0, .int .u8 0, .int .u8 0, .int .u8 0, .int .u8 0, .int .u8 0, .int .u8 0, .int .u8 0, .int .u8 0, .int .u8 0, .int .u8 0, .int .u8 0, .int .u8 0, .bool false, .int .u8 0, .int .u8 0, .int .u8 0, .int .u8 0, .int .u8 0, .int .u8 0, .int .u8 0, .int .u8 0, .int .u8 0, .int .u8 0, .int .u8 0, .int .u8 0, .int .u8 0, .int .u8 0, .int .u8 0, .int .u8 0] 33)
  replace K := Lib.hid (K.out.trans (hal.mono K.out.size))
  replace HR := Lib.hid (HR.out.below hal)
  replace HS := Lib.hid (HS.out.below hal)
  replace HD := Lib.hid (HD.out.below hal)
  have HH := Lib.hid (Blk.new w 33 #[Value.int .i64 0, .int .i64 0, .int .u8 0, .bool false, .int .u8 0, .int .u8 0, .int .u8 0, .int .u8 0, .int .u8 0, .int .u8 0, .int .u8 0, .int .u8 0, .int .u8 0, .int .u8 0, .int .u8 0, .int .u8 0, .int .u8 0, .int .u8 0, .int .u8 0, .int .u8 0, .bool false, .int .u8 0, .int .u8 0, .int .u8 0, .int .u8 0, .int .u8 0, .int .u8 0, .int .u8 0, .int .u8 0, .int .u8 0, .int .u8 0, .int .u8 0, .int .u8 0, .int .u8 0, .int .u8 0, .int .u8 0, .int .u8 0])
  clear hal
  go_wp2_with fail
  generalize (w.alloc (.cells #[Value.int .i64 0, .int .i64 0, .int .u8 0, .bool false, .int .u8 0, .int .u8 0, .int .u8 0, .int .u8 0, .int .u8 0, .int .u8 0, .int .u8 0, .int .u8 0, .int .u8 0, .int .u8 0, .int .u8 0, .int .u8 0, .int .u8 0, .int .u8 0, .int .u8 0, .int .u8 0, .bool false, .int .u8 0, .int .u8 0, .int .u8 0, .int .u8 0, .int .u8 0, .int .u8 0, .int .u8 0, .int .u8 0, .int .u8 0, .int .u8 0, .int .u8 0, .int .u8 0, .int .u8 0, .int .u8 0, .int .u8 0, .int .u8 0] 33)) = V1 at *
  refine (C1.out _ _ HS.out).mono ?_
  rintro e V2 ⟨rfl, hy⟩
  replace K := Lib.hid (K.out.trans (hy.mono K.out.size))
  replace HR := Lib.hid (HR.out.below hy)
  replace HS := Lib.hid (HS.out.below hy)
  replace HD := Lib.hid (HD.out.below hy)
  replace HH := Lib.hid (HH.out.below hy HH.out.lt)
  clear hy
  go_wp2_with (((with_reducible refine wpList_blk_store (op := ⟨none, .store 25 (.tmp 4) (.tmp 17), _, _, _, _⟩) ?sg2 25 (.tmp 4) (.tmp 17) ?so2 (V2.heap.size) S ?sx2 ?sy2 (Blk.new V2 25 #[Value.bool false, .int .u8 0, .int .u8 0, .int .u8 0, .int .u8 0, .int .u8 0, .int .u8 0, .int .u8 0, .int .u8 0, .int .u8 0, .int .u8 0, .int .u8 0, .int .u8 0, .int .u8 0, .int .u8 0, .int .u8 0, .int .u8 0]) YS.out ZS.out AS.out ?_); (case sg2 => rfl); (case so2 => rfl); (case sx2 => rfl); (case sy2 => rfl)))
  have qHHNS : w.heap.size < V2.heap.size := HH.out.lt
  intro V3 hA hF hB
  have hy := ((Below.refl V2.heap.size V2).alloc (Nat.le_refl _) (.cells #[Value.bool false, .int .u8 0, .int .u8 0, .int .u8 0, .int .u8 0, .int .u8 0, .int .u8 0, .int .u8 0, .int .u8 0, .int .u8 0, .int .u8 0, .int .u8 0, .int .u8 0, .int .u8 0, .int .u8 0, .int .u8 0, .int .u8 0] 25)).trans (hB _ (Nat.le_refl _))
  replace K := Lib.hid (K.out.trans (hy.mono K.out.size))
  replace HR := Lib.hid (HR.out.below hy)
  replace HS := Lib.hid (HS.out.below hy)
  replace HD := Lib.hid (HD.out.below hy)
  replace HH := Lib.hid (HH.out.below hy HH.out.lt)
  have NS := Lib.hid hA
  clear hA hF hB hy
  go_wp2_with fail
  refine (C2.out _ _ HD.out).mono ?_
  rintro e V4 ⟨rfl, hy⟩
  replace K := Lib.hid (K.out.trans (hy.mono K.out.size))
  replace HR := Lib.hid (HR.out.below hy)
  replace HS := Lib.hid (HS.out.below hy)
  replace HD := Lib.hid (HD.out.below hy)
  replace HH := Lib.hid (HH.out.below hy HH.out.lt)
  replace NS := Lib.hid (NS.out.below hy NS.out.lt)
  clear hy
  go_wp2_with (((with_reducible refine wpList_blk_store (op := ⟨none, .store 25 (.tmp 6) (.tmp 23), _, _, _, _⟩) ?sg3 25 (.tmp 6) (.tmp 23) ?so3 (V4.heap.size) D ?sx3 ?sy3 (Blk.new V4 25 #[Value.bool false, .int .u8 0, .int .u8 0, .int .u8 0, .int .u8 0, .int .u8 0, .int .u8 0, .int .u8 0, .int .u8 0, .int .u8 0, .int .u8 0, .int .u8 0, .int .u8 0, .int .u8 0, .int .u8 0, .int .u8 0, .int .u8 0]) YD.out ZD.out AD.out ?_); (case sg3 => rfl); (case so3 => rfl); (case sx3 => rfl); (case sy3 => rfl)))
  have qHHND : w.heap.size < V4.heap.size := HH.out.lt
  have qNSND : V2.heap.size < V4.heap.size := NS.out.lt
  intro V5 hA hF hB
  have hy := ((Below.refl V4.heap.size V4).alloc (Nat.le_refl _) (.cells #[Value.bool false, .int .u8 0, .int .u8 0, .int .u8 0, .int .u8 0, .int .u8 0, .int .u8 0, .int .u8 0, .int .u8 0, .int .u8 0, .int .u8 0, .int .u8 0, .int .u8 0, .int .u8 0, .int .u8 0, .int .u8 0, .int .u8 0] 25)).trans (hB _ (Nat.le_refl _))
  replace K := Lib.hid (K.out.trans (hy.mono K.out.size))
  replace HR := Lib.hid (HR.out.below hy)
  replace HS := Lib.hid (HS.out.below hy)
  replace HD := Lib.hid (HD.out.below hy)
  replace HH := Lib.hid (HH.out.below hy HH.out.lt)
  replace NS := Lib.hid (NS.out.below hy NS.out.lt)
  have ND := Lib.hid hA
  clear hA hF hB hy
  go_upto_region 5 with fail
  have hlow : V5.heap.size ≤ V5.heap.size := Nat.le_refl _
  have qHH : w.heap.size < V5.heap.size := HH.out.lt
  have qK := K.out.size
  have qNS := NS.out.lt
  have qND := ND.out.lt
  go_cut [8] (fun v wx => ∃ g, v = .pointer (some ⟨g, 0, none⟩) ∧ Blk wx g 33 H ∧ Blk wx w.heap.size 33 #[Value.int .i64 0, .int .i64 0, .int .u8 0, .bool false, .int .u8 0, .int .u8 0, .int .u8 0, .int .u8 0, .int .u8 0, .int .u8 0, .int .u8 0, .int .u8 0, .int .u8 0, .int .u8 0, .int .u8 0, .int .u8 0, .int .u8 0, .int .u8 0, .int .u8 0, .int .u8 0, .bool false, .int .u8 0, .int .u8 0, .int .u8 0, .int .u8 0, .int .u8 0, .int .u8 0, .int .u8 0, .int .u8 0, .int .u8 0, .int .u8 0, .int .u8 0, .int .u8 0, .int .u8 0, .int .u8 0, .int .u8 0, .int .u8 0] ∧ w.heap.size < g ∧ Below w.heap.size w wx)
  case first =>
    refine wp_region_held (S := (fun w' : World => Below (V5.heap.size) V5 w')) (by kernel_rfl) ?_
    change wpAnyH _ _ _ _ _ _ _ _ V5.drew
    have hy : Below V5.heap.size V5 V5.drew := (Below.refl _ _).drew
    have hE0 : Below (V5.heap.size) V5 V5.drew := (Below.refl _ _).drew
    clear hy
    generalize V5.drew = Y5x0 at hE0  ⊢
    have E0 := Lib.hid hE0
    clear hE0
    refine wpAnyH_take (i := 0) (oi := { dst := some 25, op := Op.move (Operand.tmp 0), type := 22, pos := "frame.go:249", after := #[], guard := none }) (v := ?_) rfl (by kernel_rfl) (by kernel_rfl) (by kernel_rfl) (fun _ _ _ h => h) (Or.inl ⟨by rfl, ?_⟩) E0.out ?_
    rotate_left
    · (intro w1 hS; go_simp; try with_reducible rfl)
    simp only [Act.put, List.setIfInBounds_toArray, List.set_cons_zero, List.set_cons_succ]
    refine wpAnyH_take (i := 3) (oi := { dst := some 28, op := Op.move (Operand.tmp 0), type := 22, pos := "frame.go:249", after := #[], guard := none }) (v := ?_) rfl (by kernel_rfl) (by kernel_rfl) (by kernel_rfl) (fun _ _ _ h => h) (Or.inl ⟨by rfl, ?_⟩) E0.out ?_
    rotate_left
    · (intro w1 hS; go_simp; try with_reducible rfl)
    simp only [Act.put, List.setIfInBounds_toArray, List.set_cons_zero, List.set_cons_succ]
    refine wpAnyH_take (i := 4) (oi := { dst := some 29, op := Op.indexAddr 22 (Operand.tmp 28) (Operand.const (Value.int IntKind.i64 6)), type := 0, pos := "frame.go:249", after := #[{ on := 3, ground := Ground.data }], guard := none }) (v := ?_) rfl (by kernel_rfl) (by kernel_rfl) (by kernel_rfl) (fun _ _ _ h => h) (Or.inl ⟨by rfl, ?_⟩) E0.out ?_
    rotate_left
    · (intro w1 hS; have hW := hS; have q := (K.out.trans (hW.mono K.out.size)).cell (p := ⟨b, off + 6, none⟩) hb0 |>.trans c6.out; clear hW hS; go_simp; try with_reducible rfl)
    simp only [Act.put, List.setIfInBounds_toArray, List.set_cons_zero, List.set_cons_succ]
    refine wpAnyH_take (i := 5) (oi := { dst := some 30, op := Op.load 5 (Operand.tmp 29), type := 5, pos := "frame.go:249", after := #[{ on := 4, ground := Ground.data }], guard := none }) (v := ?_) rfl (by kernel_rfl) (by kernel_rfl) (by kernel_rfl) (fun _ _ _ h => h) (Or.inl ⟨by rfl, ?_⟩) E0.out ?_
    rotate_left
    · (intro w1 hS; have hW := hS; have q := (K.out.trans (hW.mono K.out.size)).cell (p := ⟨b, off + 6, none⟩) hb0 |>.trans c6.out; clear hW hS; go_simp; try with_reducible rfl)
    simp only [Act.put, List.setIfInBounds_toArray, List.set_cons_zero, List.set_cons_succ]
    refine wpAnyH_take (i := 6) (oi := { dst := some 31, op := Op.load 25 (Operand.tmp 4), type := 25, pos := "frame.go:249", after := #[], guard := none }) (v := .agg S) rfl (by kernel_rfl) (by kernel_rfl) (by kernel_rfl) (fun _ _ _ h => h) (Or.inl ⟨by rfl, ?_⟩) E0.out ?_
    · (intro w1 hS; have hW := hS; exact exec_load 25 (.tmp 4) rfl _ rfl _ (run_blk_load (P := Try.prog) 25 (V2.heap.size) _ (NS.out.below hW (by omega)) Try.underlying25 rfl ZS.out))
    simp only [Act.put, List.setIfInBounds_toArray, List.set_cons_zero, List.set_cons_succ]
    refine wpAnyH_take (i := 7) (oi := { dst := some 32, op := Op.load 25 (Operand.tmp 6), type := 25, pos := "frame.go:249", after := #[], guard := none }) (v := .agg D) rfl (by kernel_rfl) (by kernel_rfl) (by kernel_rfl) (fun _ _ _ h => h) (Or.inl ⟨by rfl, ?_⟩) E0.out ?_
    · (intro w1 hS; have hW := hS; exact exec_load 25 (.tmp 6) rfl _ rfl _ (run_blk_load (P := Try.prog) 25 (V4.heap.size) _ (ND.out.below hW (by omega)) Try.underlying25 rfl ZD.out))
    simp only [Act.put, List.setIfInBounds_toArray, List.set_cons_zero, List.set_cons_succ]
    refine wpAnyH_ready (rs := [1, 9]) (by kernel_rfl) (by simp) ?_
    refine AllReadyH.cons (o := { dst := some 26, op := Op.call { callee := Callee.value (Operand.func 22), args := #[Operand.tmp 25, Operand.const (Value.int IntKind.i64 4)], argTypes := #[22, 3] }, type := 3, pos := "frame.go:249", after := #[{ on := 0, ground := Ground.data }], guard := none }) rfl (fun K hK => ?_) ?_
    · go_simp
      refine (CB.out Y5x0 (HR.out.below E0.out)).mono ?_
      rintro e Y5x1 ⟨rfl, hy⟩
      have E1 := Lib.hid (E0.out.trans (hy.mono (Nat.le_trans hlow E0.out.size)))
      have C1 := Lib.hid E1.out
      clear hy E0
      refine hK.out _ _ C1.out (fun _ => ?_)
      clear hK K
      clear C1
      try simp only [Act.put, List.setIfInBounds_toArray, List.set_cons_zero, List.set_cons_succ]
      refine wpAnyH_take (i := 2) (oi := { dst := some 27, op := Op.binOp BinOp.add 3 (Operand.const (Value.int IntKind.i64 40)) (Operand.tmp 26) 3, type := 3, pos := "frame.go:249", after := #[{ on := 1, ground := Ground.data }], guard := none }) (v := ?_) rfl (by kernel_rfl) (by kernel_rfl) (by kernel_rfl) (fun _ _ _ h => h) (Or.inl ⟨by rfl, ?_⟩) E1.out ?_
      rotate_left
      · (intro w1 hS; have hW := hS; have q := HW.out; clear hW hS; go_simp; try with_reducible rfl)
      simp only [Act.put, List.setIfInBounds_toArray, List.set_cons_zero, List.set_cons_succ]
      refine wpAnyH_take (i := 8) (oi := { dst := some 33, op := Op.build 33 #[(0, Operand.const (Value.int IntKind.i64 40)), (1, Operand.tmp 27), (2, Operand.tmp 30), (3, Operand.tmp 31), (4, Operand.tmp 32)], type := 33, pos := "frame.go:249", after := #[{ on := 2, ground := Ground.data }, { on := 5, ground := Ground.data }, { on := 6, ground := Ground.data }, { on := 7, ground := Ground.data }], guard := none }) (v := .agg H) rfl (by kernel_rfl) (by kernel_rfl) (by kernel_rfl) (fun _ _ _ h => h) (Or.inl ⟨by rfl, ?_⟩) E1.out ?_
      · (intro w1 hS; exact exec_build 33 _ rfl #[(0, .int .i64 40), (1, .int .i64 ((40 + l : Nat) : Int)), (2, .int .u8 (p : Int)), (3, .agg S), (4, .agg D)] (by kernel_rfl) H HBD.out)
      simp only [Act.put, List.setIfInBounds_toArray, List.set_cons_zero, List.set_cons_succ]
      refine wpAnyH_ready (rs := [9]) (by kernel_rfl) (by simp) ?_
      refine AllReadyH.cons (o := { dst := some 8, op := Op.alloc 33, type := 0, pos := "frame.go:249", after := #[], guard := none }) rfl (fun K hK => ?_) AllReadyH.nil
      go_simp
      have NH := Blk.new Y5x1 33 #[Value.int .i64 0, .int .i64 0, .int .u8 0, .bool false, .int .u8 0, .int .u8 0, .int .u8 0, .int .u8 0, .int .u8 0, .int .u8 0, .int .u8 0, .int .u8 0, .int .u8 0, .int .u8 0, .int .u8 0, .int .u8 0, .int .u8 0, .int .u8 0, .int .u8 0, .int .u8 0, .bool false, .int .u8 0, .int .u8 0, .int .u8 0, .int .u8 0, .int .u8 0, .int .u8 0, .int .u8 0, .int .u8 0, .int .u8 0, .int .u8 0, .int .u8 0, .int .u8 0, .int .u8 0, .int .u8 0, .int .u8 0, .int .u8 0]
      have hy := (Below.refl Y5x1.heap.size Y5x1).alloc (Nat.le_refl _) (.cells #[Value.int .i64 0, .int .i64 0, .int .u8 0, .bool false, .int .u8 0, .int .u8 0, .int .u8 0, .int .u8 0, .int .u8 0, .int .u8 0, .int .u8 0, .int .u8 0, .int .u8 0, .int .u8 0, .int .u8 0, .int .u8 0, .int .u8 0, .int .u8 0, .int .u8 0, .int .u8 0, .bool false, .int .u8 0, .int .u8 0, .int .u8 0, .int .u8 0, .int .u8 0, .int .u8 0, .int .u8 0, .int .u8 0, .int .u8 0, .int .u8 0, .int .u8 0, .int .u8 0, .int .u8 0, .int .u8 0, .int .u8 0, .int .u8 0] 33)
      have gNH := Nat.le_trans (Nat.le_of_eq rfl) E1.out.size
      generalize Y5x1.alloc (.cells #[Value.int .i64 0, .int .i64 0, .int .u8 0, .bool false, .int .u8 0, .int .u8 0, .int .u8 0, .int .u8 0, .int .u8 0, .int .u8 0, .int .u8 0, .int .u8 0, .int .u8 0, .int .u8 0, .int .u8 0, .int .u8 0, .int .u8 0, .int .u8 0, .int .u8 0, .int .u8 0, .bool false, .int .u8 0, .int .u8 0, .int .u8 0, .int .u8 0, .int .u8 0, .int .u8 0, .int .u8 0, .int .u8 0, .int .u8 0, .int .u8 0, .int .u8 0, .int .u8 0, .int .u8 0, .int .u8 0, .int .u8 0, .int .u8 0] 33) = Y5x2 at NH hy ⊢
      replace NH := Lib.hid NH
      have E2 := Lib.hid (E1.out.trans (hy.mono (Nat.le_trans hlow E1.out.size)))
      have C2 := Lib.hid E2.out
      clear hy E1
      refine hK.out _ _ C2.out (fun _ => ?_)
      clear hK K
      clear C2
      try simp only [Act.put, List.setIfInBounds_toArray, List.set_cons_zero, List.set_cons_succ]
      refine wpAnyH_ready (rs := [10]) (by kernel_rfl) (by simp) ?_
      refine AllReadyH.cons (o := { dst := none, op := Op.store 33 (Operand.tmp 8) (Operand.tmp 33), type := 0, pos := "frame.go:249", after := #[{ on := 9, ground := Ground.data }, { on := 8, ground := Ground.data }, { on := 1, ground := Ground.chain }, { on := 0, ground := Ground.phase }, { on := 1, ground := Ground.phase }, { on := 2, ground := Ground.phase }, { on := 3, ground := Ground.phase }, { on := 4, ground := Ground.phase }, { on := 5, ground := Ground.phase }, { on := 6, ground := Ground.phase }, { on := 7, ground := Ground.phase }, { on := 8, ground := Ground.phase }, { on := 9, ground := Ground.phase }], guard := none }) rfl (fun K hK => ?_) AllReadyH.nil
      rw [if_pos (by rfl)]
      refine wp_blk_store 33 (.tmp 8) (.tmp 33) rfl H rfl rfl NH.out YH.out ZH.out AH.out ?_
      intro Y5x3 hA hF hB
      have E3 := Lib.hid (E2.out.trans (hB _ gNH))
      replace NH := Lib.hid hA
      clear hA hF hB E2
      refine hK.out _ _ E3.out (fun _ => ?_)
      clear hK K
      try simp only [Act.put]
      refine wpAnyH_done (by kernel_rfl) ?_ _
      go_wp2
      go_meet
      exact ⟨_, rfl, NH.out, HH.out.below E3.out HH.out.lt, Nat.lt_of_lt_of_le HH.out.lt gNH, K.out.trans (E3.out.mono K.out.size)⟩
    refine AllReadyH.cons (o := { dst := some 8, op := Op.alloc 33, type := 0, pos := "frame.go:249", after := #[], guard := none }) rfl (fun K hK => ?_) AllReadyH.nil
    go_simp
    have NH := Blk.new Y5x0 33 #[Value.int .i64 0, .int .i64 0, .int .u8 0, .bool false, .int .u8 0, .int .u8 0, .int .u8 0, .int .u8 0, .int .u8 0, .int .u8 0, .int .u8 0, .int .u8 0, .int .u8 0, .int .u8 0, .int .u8 0, .int .u8 0, .int .u8 0, .int .u8 0, .int .u8 0, .int .u8 0, .bool false, .int .u8 0, .int .u8 0, .int .u8 0, .int .u8 0, .int .u8 0, .int .u8 0, .int .u8 0, .int .u8 0, .int .u8 0, .int .u8 0, .int .u8 0, .int .u8 0, .int .u8 0, .int .u8 0, .int .u8 0, .int .u8 0]
    have hy := (Below.refl Y5x0.heap.size Y5x0).alloc (Nat.le_refl _) (.cells #[Value.int .i64 0, .int .i64 0, .int .u8 0, .bool false, .int .u8 0, .int .u8 0, .int .u8 0, .int .u8 0, .int .u8 0, .int .u8 0, .int .u8 0, .int .u8 0, .int .u8 0, .int .u8 0, .int .u8 0, .int .u8 0, .int .u8 0, .int .u8 0, .int .u8 0, .int .u8 0, .bool false, .int .u8 0, .int .u8 0, .int .u8 0, .int .u8 0, .int .u8 0, .int .u8 0, .int .u8 0, .int .u8 0, .int .u8 0, .int .u8 0, .int .u8 0, .int .u8 0, .int .u8 0, .int .u8 0, .int .u8 0, .int .u8 0] 33)
    have gNH := Nat.le_trans (Nat.le_of_eq rfl) E0.out.size
    generalize Y5x0.alloc (.cells #[Value.int .i64 0, .int .i64 0, .int .u8 0, .bool false, .int .u8 0, .int .u8 0, .int .u8 0, .int .u8 0, .int .u8 0, .int .u8 0, .int .u8 0, .int .u8 0, .int .u8 0, .int .u8 0, .int .u8 0, .int .u8 0, .int .u8 0, .int .u8 0, .int .u8 0, .int .u8 0, .bool false, .int .u8 0, .int .u8 0, .int .u8 0, .int .u8 0, .int .u8 0, .int .u8 0, .int .u8 0, .int .u8 0, .int .u8 0, .int .u8 0, .int .u8 0, .int .u8 0, .int .u8 0, .int .u8 0, .int .u8 0, .int .u8 0] 33) = Y5x1 at NH hy ⊢
    replace NH := Lib.hid NH
    have E1 := Lib.hid (E0.out.trans (hy.mono (Nat.le_trans hlow E0.out.size)))
    have C1 := Lib.hid E1.out
    clear hy E0
    refine hK.out _ _ C1.out (fun _ => ?_)
    clear hK K
    clear C1
    try simp only [Act.put, List.setIfInBounds_toArray, List.set_cons_zero, List.set_cons_succ]
    refine wpAnyH_ready (rs := [1]) (by kernel_rfl) (by simp) ?_
    refine AllReadyH.cons (o := { dst := some 26, op := Op.call { callee := Callee.value (Operand.func 22), args := #[Operand.tmp 25, Operand.const (Value.int IntKind.i64 4)], argTypes := #[22, 3] }, type := 3, pos := "frame.go:249", after := #[{ on := 0, ground := Ground.data }], guard := none }) rfl (fun K hK => ?_) AllReadyH.nil
    go_simp
    refine (CB.out Y5x1 (HR.out.below E1.out)).mono ?_
    rintro e Y5x2 ⟨rfl, hy⟩
    replace NH := Lib.hid (NH.out.below hy NH.out.lt)
    have E2 := Lib.hid (E1.out.trans (hy.mono (Nat.le_trans hlow E1.out.size)))
    have C2 := Lib.hid E2.out
    clear hy E1
    refine hK.out _ _ C2.out (fun _ => ?_)
    clear hK K
    clear C2
    try simp only [Act.put, List.setIfInBounds_toArray, List.set_cons_zero, List.set_cons_succ]
    refine wpAnyH_take (i := 2) (oi := { dst := some 27, op := Op.binOp BinOp.add 3 (Operand.const (Value.int IntKind.i64 40)) (Operand.tmp 26) 3, type := 3, pos := "frame.go:249", after := #[{ on := 1, ground := Ground.data }], guard := none }) (v := ?_) rfl (by kernel_rfl) (by kernel_rfl) (by kernel_rfl) (fun _ _ _ h => h) (Or.inl ⟨by rfl, ?_⟩) E2.out ?_
    rotate_left
    · (intro w1 hS; have hW := hS; have q := HW.out; clear hW hS; go_simp; try with_reducible rfl)
    simp only [Act.put, List.setIfInBounds_toArray, List.set_cons_zero, List.set_cons_succ]
    refine wpAnyH_take (i := 8) (oi := { dst := some 33, op := Op.build 33 #[(0, Operand.const (Value.int IntKind.i64 40)), (1, Operand.tmp 27), (2, Operand.tmp 30), (3, Operand.tmp 31), (4, Operand.tmp 32)], type := 33, pos := "frame.go:249", after := #[{ on := 2, ground := Ground.data }, { on := 5, ground := Ground.data }, { on := 6, ground := Ground.data }, { on := 7, ground := Ground.data }], guard := none }) (v := .agg H) rfl (by kernel_rfl) (by kernel_rfl) (by kernel_rfl) (fun _ _ _ h => h) (Or.inl ⟨by rfl, ?_⟩) E2.out ?_
    · (intro w1 hS; exact exec_build 33 _ rfl #[(0, .int .i64 40), (1, .int .i64 ((40 + l : Nat) : Int)), (2, .int .u8 (p : Int)), (3, .agg S), (4, .agg D)] (by kernel_rfl) H HBD.out)
    simp only [Act.put, List.setIfInBounds_toArray, List.set_cons_zero, List.set_cons_succ]
    refine wpAnyH_ready (rs := [10]) (by kernel_rfl) (by simp) ?_
    refine AllReadyH.cons (o := { dst := none, op := Op.store 33 (Operand.tmp 8) (Operand.tmp 33), type := 0, pos := "frame.go:249", after := #[{ on := 9, ground := Ground.data }, { on := 8, ground := Ground.data }, { on := 1, ground := Ground.chain }, { on := 0, ground := Ground.phase }, { on := 1, ground := Ground.phase }, { on := 2, ground := Ground.phase }, { on := 3, ground := Ground.phase }, { on := 4, ground := Ground.phase }, { on := 5, ground := Ground.phase }, { on := 6, ground := Ground.phase }, { on := 7, ground := Ground.phase }, { on := 8, ground := Ground.phase }, { on := 9, ground := Ground.phase }], guard := none }) rfl (fun K hK => ?_) AllReadyH.nil
    rw [if_pos (by rfl)]
    refine wp_blk_store 33 (.tmp 8) (.tmp 33) rfl H rfl rfl NH.out YH.out ZH.out AH.out ?_
    intro Y5x3 hA hF hB
    have E3 := Lib.hid (E2.out.trans (hB _ gNH))
    replace NH := Lib.hid hA
    clear hA hF hB E2
    refine hK.out _ _ E3.out (fun _ => ?_)
    clear hK K
    try simp only [Act.put]
    refine wpAnyH_done (by kernel_rfl) ?_ _
    go_wp2
    go_meet
    exact ⟨_, rfl, NH.out, HH.out.below E3.out HH.out.lt, Nat.lt_of_lt_of_le HH.out.lt gNH, K.out.trans (E3.out.mono K.out.size)⟩
  case rest =>
    obtain ⟨g, rfl, hG, hN, hgl, hK⟩ := hcut
    have G := Lib.hid hG
    have e1 := (hG.cell 1).trans HG.out.2.1
    have e2 := (hG.cell 2).trans HG.out.2.2
    have c0 := (hK.cell (p := ⟨b, off, none⟩) hb0).trans c0.out
    clear HH
    have HH := Lib.hid hN
    clear K
    have K := Lib.hid hK
    clear hG hN hK HR HS HD C1 C2 CB NS ND HBD HG
    have h0n : 0 < n := by omega
    by_cases h6 : x / 16 = 6
    case neg =>
      have hf : F = 3 := by rw [HF.out, if_pos h6]
      have g4 : ((x : Int) / 16 != 6) = true := by rw [bne_iff_ne]; omega
      clear h6
      have hh : HV = r0 := by rw [HH0.out, if_neg (by omega)]
      subst hf hh
      go_wp2_with (((with_reducible refine wpList_blk_store (op := ⟨none, .store 33 (.tmp 2) (.tmp 40), _, _, _, _⟩) ?sg4 33 (.tmp 2) (.tmp 40) ?so4 (w.heap.size) r0 ?sx4 ?sy4 HH.out YR.out ZR.out AR.out ?_); (case sg4 => rfl); (case so4 => rfl); (case sx4 => rfl); (case sy4 => rfl)))
      intro V91 hA hF hB
      replace K := Lib.hid (K.out.trans (hB _ (by omega)))
      replace HH := Lib.hid hA
      clear hA hF hB
      go_wp2
      have hrun := run_blk_load (P := Try.prog) 33 w.heap.size _ HH.out Try.underlying33 rfl ZR.out
      exact bodyPost_ret (results_cell_tmp 2 33 3 w.heap.size _ Try.results10 rfl hrun) rfl ⟨rfl, K.out⟩
    have g4 : ((x : Int) / 16 != 6) = false := by rw [bne_eq_false_iff_eq]; omega
    rw [if_neg (by omega)] at HF
    clear h6
    by_cases hnl : n < 40 + l
    · have hf : F = 1 := by rw [HF.out, if_pos hnl]
      have gl : decide ((n : Int) < 40 + (l : Int)) = true := decide_eq_true (by omega)
      have hh : HV = r0 := by rw [HH0.out, if_neg (by omega)]
      subst hf hh
      go_wp2_with (((with_reducible refine wpList_blk_store (op := ⟨none, .store 33 (.tmp 2) (.tmp 47), _, _, _, _⟩) ?sg5 33 (.tmp 2) (.tmp 47) ?so5 (w.heap.size) r0 ?sx5 ?sy5 HH.out YR.out ZR.out AR.out ?_); (case sg5 => rfl); (case so5 => rfl); (case sx5 => rfl); (case sy5 => rfl)))
      intro V91 hA hF hB
      replace K := Lib.hid (K.out.trans (hB _ (by omega)))
      replace HH := Lib.hid hA
      clear hA hF hB
      go_wp2
      have hrun := run_blk_load (P := Try.prog) 33 w.heap.size _ HH.out Try.underlying33 rfl ZR.out
      exact bodyPost_ret (results_cell_tmp 2 33 3 w.heap.size _ Try.results10 rfl hrun) rfl ⟨rfl, K.out⟩
    have gl : decide ((n : Int) < 40 + (l : Int)) = false := decide_eq_false (by omega)
    rw [if_neg hnl] at HF
    by_cases hp44 : p = 44
    · have hf : F = 5 := by rw [HF.out, if_pos hp44]
      have hh : HV = r0 := by rw [HH0.out, if_neg (by omega)]
      subst hf hp44 hh
      go_wp2_with (((with_reducible refine wpList_blk_store (op := ⟨none, .store 33 (.tmp 2) (.tmp 52), _, _, _, _⟩) ?sg6 33 (.tmp 2) (.tmp 52) ?so6 (w.heap.size) r0 ?sx6 ?sy6 HH.out YR.out ZR.out AR.out ?_); (case sg6 => rfl); (case so6 => rfl); (case sx6 => rfl); (case sy6 => rfl)))
      intro V91 hA hF hB
      replace K := Lib.hid (K.out.trans (hB _ (by omega)))
      replace HH := Lib.hid hA
      clear hA hF hB
      go_wp2
      have hrun := run_blk_load (P := Try.prog) 33 w.heap.size _ HH.out Try.underlying33 rfl ZR.out
      exact bodyPost_ret (results_cell_tmp 2 33 3 w.heap.size _ Try.results10 rfl hrun) rfl ⟨rfl, K.out⟩
    rw [if_neg hp44] at HF
    have g44 : ((p : Int) == 44) = false := by rw [beq_eq_false_iff_ne]; omega
    by_cases hpp : p = 6 ∨ p = 17
    case neg =>
      have hf : F = 6 := by rw [HF.out, if_pos (by omega)]
      have hh : HV = r0 := by rw [HH0.out, if_neg (by omega)]
      have g6 : ((p : Int) != 6) = true := by rw [bne_iff_ne]; omega
      have g17 : ((p : Int) != 17) = true := by rw [bne_iff_ne]; omega
      clear hpp hp44
      subst hf hh
      go_wp2_with (((with_reducible refine wpList_blk_store (op := ⟨none, .store 33 (.tmp 2) (.tmp 62), _, _, _, _⟩) ?sg7 33 (.tmp 2) (.tmp 62) ?so7 (w.heap.size) r0 ?sx7 ?sy7 HH.out YR.out ZR.out AR.out ?_); (case sg7 => rfl); (case so7 => rfl); (case sx7 => rfl); (case sy7 => rfl)))
      intro V91 hA hF hB
      replace K := Lib.hid (K.out.trans (hB _ (by omega)))
      replace HH := Lib.hid hA
      clear hA hF hB
      go_wp2
      have hrun := run_blk_load (P := Try.prog) 33 w.heap.size _ HH.out Try.underlying33 rfl ZR.out
      exact bodyPost_ret (results_cell_tmp 2 33 3 w.heap.size _ Try.results10 rfl hrun) rfl ⟨rfl, K.out⟩
    have hf : F = 0 := by rw [HF.out, if_neg (by omega)]
    have hh : HV = H := by rw [HH0.out, if_pos hf]
    clear hp44
    subst hf hh
    rcases hpp with rfl | rfl
    all_goals
      have L8 : (loadVar 33 ⟨g, 0, none⟩).run Try.prog wc = .ok (.agg HV) wc := run_blk_load (P := Try.prog) 33 (g) _ G.out Try.underlying33 rfl ZH.out
      replace L8 := Lib.hid L8
      go_wp2_with (first | ((with_reducible refine wpList_load_want (op := ⟨some 63, .load 33 (.tmp 8), _, _, _, _⟩) ?wg8 33 (.tmp 8) ?wo8 ⟨g, 0, none⟩ ?wx8 (.agg HV) L8.out ?_); (case wg8 => rfl); (case wo8 => rfl); (case wx8 => rfl)) | ((with_reducible refine wpList_blk_store (op := ⟨none, .store 33 (.tmp 2) (.tmp 63), _, _, _, _⟩) ?sg9 33 (.tmp 2) (.tmp 63) ?so9 (w.heap.size) HV ?sx9 ?sy9 HH.out YH.out ZH.out AH.out ?_); (case sg9 => rfl); (case so9 => rfl); (case sx9 => rfl); (case sy9 => rfl)))
      clear L8
      intro V91 hA hF hB
      replace K := Lib.hid (K.out.trans (hB _ (by omega)))
      replace G := Lib.hid ((hF _ (by omega)).trans G.out)
      replace HH := Lib.hid hA
      clear hA hF hB
      go_wp2
      have hrun := run_blk_load (P := Try.prog) 33 w.heap.size _ HH.out Try.underlying33 rfl ZH.out
      exact bodyPost_ret (results_cell_tmp 2 33 3 w.heap.size _ Try.results10 rfl hrun) rfl ⟨rfl, K.out⟩
theorem rsix_any (v : Value) (zs : List Nat) (w : World) (hr : Rd w v (nus .u8 zs)) (hb : ∀ c ∈ zs, c < 256) :
    Calls Try.prog 10 #[v] w fun e w' => e = .returned (.tuple #[.agg (rd6 zs), .int .i64 (f6 zs : Nat)]) ∧ Below w.heap.size w w' := by
  by_cases h : zs.length < 40
  · have h1 : f6 zs = 1 := by unfold f6; rw [if_pos h]
    have e : rd6 zs = r0 := by unfold rd6; rw [if_neg (by omega)]
    rw [e, h1]
    exact rsix_short v zs w hr h
  · exact rsix_long v zs w hr hb h
end Go.Proofs.Ytnfanenaighflaa

/- append to a row of the call's own. -/
namespace Go.Proofs.Ytnfanenaighflaa
open Go.RowKit

/-- 'append(row, b...)' to a row of the call's own, under a guard that holds: the row with the numbers behind. -/
theorem wpList_app {w : World} {ops : Array Oper} {rest : List Oper} {o : Oper} {a : Act} {Q : Exit → Act → World → Prop} (hw : Region.wanted o (yielded ops a.tmps) = true) (s x : Operand)
    (ho : o.op = .call { callee := .builtin .append, args := #[s, x], argTypes := #[22, 22] })
    (base : Nat) (v : Value) (n : Nat) (zs : List Nat) (hs : a.eval s = v) (hown : w.ownsRow base 5 1 v n (nus .u8 zs))
    (ao : Option Addr) (len cap : Nat) (bs : List Nat) (hx : a.eval x = .slice ao len cap) (hr : Rd w (.slice ao len cap) (nus .u8 bs)) (hn : ao = none → cap = 0) (hlen : n + len ≤ 1000000) (hbase : base ≤ w.heap.size)
    (h : ∀ v' w', w'.ownsRow base 5 1 v' (n + len) (nus .u8 (zs ++ bs)) → w.grownBy w' v.ownBlock → wpList Try.prog ops Q rest (a.put o.dst v') w') :
    wpList Try.prog ops Q (o :: rest) a w := by
  obtain ⟨i0, hi, hz0, hz1, hz2⟩ := info_parts Try.info5
  obtain ⟨a', cap', e, h1, h2, h3⟩ := hr
  simp only [Value.slice.injEq] at e
  obtain ⟨rfl, he, rfl⟩ := e
  rw [nus_length] at he h1 h3
  subst he
  refine BigFrame.wpList_want hw fun K hK => ?_
  cases ao with
  | none =>
    obtain rfl := hn rfl
    have hb : bs = [] := by cases bs with | nil => rfl | cons _ _ => simp at h1
    subst hb
    have hrun := run_append_owned_none (P := Try.prog) (w := w) base 22 o.type 5 i0 1 Try.underlying22 hi v n (nus .u8 zs) hown
    unfold Oper.wp
    simp [execOp, ho, resolve, invoke, builtin, hs, hx, hrun, Result.andThen]
    exact hK _ _ (h v w (by simpa using hown) (World.grownBy.refl _ _))
  | some ad =>
    refine wp_append_own w s x 22 ho base 5 i0 (.int .u8 0) 1 1 Try.underlying22 hi hz0 hz1 hz2 rfl (by decide) v n (nus .u8 zs) hs hown ad bs.length cap (nus .u8 bs) hx (by rw [nus_length]; omega) ?_ (oneCell_nus _ _) (by unfold maxLen; omega) (by omega) hbase ?_
    · intro j u hj
      rcases h3 with h3 | ⟨b, off, e, hb, hcc⟩
      · rw [h3] at hj; simp at hj
      · cases e
        have hjl : j < (nus .u8 bs).length := (List.getElem?_eq_some_iff.1 hj).1
        rw [nus_length] at hjl
        rw [← hj]
        rw [Addr.add_lit]; exact hcc j hjl
    · intro v' w' hown' hgr _
      exact hK _ _ (h v' w' (by rw [nus_append]; exact hown') hgr)
/-- A row of no elements. -/
theorem own_none (w : World) (e : TypeId) : (w.alloc (.cells #[] e)).ownsRow w.heap.size e 1 (.slice (some ⟨w.heap.size, 0, none⟩) 0 0) 0 (nus .u8 []) :=
  own_of_heap (show (w.heap.push (.cells #[] e))[w.heap.size]? = _ by simp [nus]) (Nat.le_refl _) rfl (by simp [maxLen])
end Go.Proofs.Ytnfanenaighflaa

/- bazaarref1.Bytes. -/
namespace Go.Proofs.Ytnfanenaighflaa
open Go.RowKit

/-- The bytes of an address that lies in a block of its own. -/
theorem rd_adr {w : World} {g : Nat} {t : TypeId} {v : Bool} {bs : List Nat} (h : Blk w g t (cellsA v bs)) (n : Nat) (hn : n ≤ bs.length) (h16 : n ≤ 16) : Rd w (.slice (some ⟨g, 1, none⟩) n 16) (nus .u8 (bs.take n)) := by
  have hl : (nus .u8 (bs.take n)).length = n := by rw [nus_length]; simp; omega
  refine ⟨_, _, by rw [hl], by rw [hl]; exact h16, by simp [maxLen], .inr ⟨g, 1, rfl, h.lt, fun i hi => ?_⟩⟩
  rw [hl] at hi
  rw [h.cell (1 + i), cellsA_get v bs i (by omega), nus_get _ _ _ (by simp; omega)]
  simp [List.getD_eq_getElem?_getD, hi]

set_option maxHeartbeats 1000000 in
theorem rbytes_own (v : Bool) (bs : List Nat) (hl : bs.length = 16) (w : World) :
    Calls Try.prog 25 #[adr v bs] w fun e w' => ∃ z, e = .returned z ∧ w'.ownsRow w.heap.size 5 1 z (bytesA v bs).length (nus .u8 (bytesA v bs)) ∧ Below w.heap.size w w' := by
  unfold adr
  have HN := Lib.hid (Blk.new w 25 (cellsA v bs))
  have B0 := (Below.refl w.heap.size w).alloc (Nat.le_refl _) (.cells (cellsA v bs) 25)
  have hc0 : (w.alloc (.cells (cellsA v bs) 25)).cell? ⟨w.heap.size, 0, none⟩ = some (.bool v) := (HN.out.cell 0).trans (by simp [cellsA])
  have R4 := Lib.hid (rd_adr HN.out 4 (by omega) (by omega))
  have R16 := Lib.hid (rd_adr HN.out 16 (by omega) (by omega))
  have e16 : bs.take 16 = bs := List.take_of_length_le (by omega)
  rw [e16] at R16
  have HL := Lib.hid hl
  generalize cellsA v bs = c at *
  generalize hW : w.alloc (.cells c 25) = W at hc0 R4 R16 B0
  have HW := Lib.hid hW
  have hsz : w.heap.size ≤ W.heap.size := by rw [← hW]; simp
  have o1 := own_low hsz (own_none W 5)
  have b1 := (Below.refl W.heap.size W).alloc (Nat.le_refl _) (.cells #[] 5)
  have K1 := Lib.hid (B0.trans (b1.mono hsz))
  have O1 := Lib.hid o1
  have r4 := Lib.hid (R4.out.below b1)
  have r16 := Lib.hid (R16.out.below b1)
  clear hl hW HN B0 e16 o1 b1 R4 R16
  cases v with
  | false =>
    unfold bytesA
    rw [if_neg (by decide), show (bs.take 4).length = 4 from by rw [List.length_take, HL.out]; rfl]
    go_enter Try.func25, Try.ntmps25
    have hWW := HW.out
    go_wp2_with (at_builtin; refine wpList_app rfl (.tmp 6) (.tmp 9) rfl w.heap.size _ 0 [] rfl O1.out (some _) 4 16 (bs.take 4) rfl r4.out ?c1 ?c2 ?c3 ?c4)
    case c1 => intro e; cases e
    case c2 => omega
    case c3 => exact K1.out.size
    intro v2 w2 o2 g2
    have K2 := Lib.hid (K1.out.grown g2 K1.out.size (fun k e => (O1.out.lt k e).1))
    have O2 := Lib.hid o2
    clear o2 g2
    go_wp2
    go_ret
    exact ⟨_, rfl, O2.out, K2.out⟩
  | true =>
    unfold bytesA
    rw [if_pos rfl, show bs.length = 16 from HL.out]
    go_enter Try.func25, Try.ntmps25
    have hWW := HW.out
    go_wp2_with (at_builtin; refine wpList_app rfl (.tmp 6) (.tmp 9) rfl w.heap.size _ 0 [] rfl O1.out (some _) 16 16 bs rfl r16.out ?d1 ?d2 ?d3 ?d4)
    case d1 => intro e; cases e
    case d2 => omega
    case d3 => exact K1.out.size
    intro v2 w2 o2 g2
    have K2 := Lib.hid (K1.out.grown g2 K1.out.size (fun k e => (O1.out.lt k e).1))
    have O2 := Lib.hid o2
    clear o2 g2
    go_wp2
    go_ret
    exact ⟨_, rfl, O2.out, K2.out⟩
end Go.Proofs.Ytnfanenaighflaa

/- append to a row of the call's own, where an operation alone is looked at. -/
namespace Go.Proofs.Ytnfanenaighflaa
open Go.RowKit

theorem wp_app {w : World} {K : Act → World → Prop} {Q : Exit → Act → World → Prop} {o : Oper} {a : Act} (s x : Operand)
    (ho : o.op = .call { callee := .builtin .append, args := #[s, x], argTypes := #[22, 22] })
    (base : Nat) (v : Value) (n : Nat) (zs : List Nat) (hs : a.eval s = v) (hown : w.ownsRow base 5 1 v n (nus .u8 zs))
    (ao : Option Addr) (len cap : Nat) (bs : List Nat) (hx : a.eval x = .slice ao len cap) (hr : Rd w (.slice ao len cap) (nus .u8 bs)) (hn : ao = none → cap = 0) (hlen : n + len ≤ 1000000) (hbase : base ≤ w.heap.size)
    (h : ∀ v' w', w'.ownsRow base 5 1 v' (n + len) (nus .u8 (zs ++ bs)) → w.grownBy w' v.ownBlock → K (a.put o.dst v') w') :
    o.wp Try.prog a w K Q := by
  obtain ⟨i0, hi, hz0, hz1, hz2⟩ := info_parts Try.info5
  obtain ⟨a', cap', e, h1, h2, h3⟩ := hr
  simp only [Value.slice.injEq] at e
  obtain ⟨rfl, he, rfl⟩ := e
  rw [nus_length] at he h1 h3
  subst he
  cases ao with
  | none =>
    obtain rfl := hn rfl
    have hb : bs = [] := by cases bs with | nil => rfl | cons _ _ => simp at h1
    subst hb
    have hrun := run_append_owned_none (P := Try.prog) (w := w) base 22 o.type 5 i0 1 Try.underlying22 hi v n (nus .u8 zs) hown
    unfold Oper.wp
    simp [execOp, ho, resolve, invoke, builtin, hs, hx, hrun, Result.andThen]
    exact h v w (by simpa using hown) (World.grownBy.refl _ _)
  | some ad =>
    refine wp_append_own w s x 22 ho base 5 i0 (.int .u8 0) 1 1 Try.underlying22 hi hz0 hz1 hz2 rfl (by decide) v n (nus .u8 zs) hs hown ad bs.length cap (nus .u8 bs) hx (by rw [nus_length]; omega) ?_ (oneCell_nus _ _) (by unfold maxLen; omega) (by omega) hbase ?_
    · intro j u hj
      rcases h3 with h3 | ⟨b, off, e, hb, hcc⟩
      · rw [h3] at hj; simp at hj
      · cases e
        have hjl : j < (nus .u8 bs).length := (List.getElem?_eq_some_iff.1 hj).1
        rw [nus_length] at hjl
        rw [← hj]
        rw [Addr.add_lit]; exact hcc j hjl
    · intro v' w' hown' hgr _
      exact h v' w' (by rw [nus_append]; exact hown') hgr
end Go.Proofs.Ytnfanenaighflaa

