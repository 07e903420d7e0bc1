/- Texts that the walks of this seat lean on, put together: each has its own remark below. -/
import Derived.Lib.QuietBelow
import Derived.BigFrame
import Derived.Deep.DeepCutAuto
import Derived.Test.YtopfbgoiehlhbaaM01
import Derived.Test.YtopfbgoiehlhbaaM02
import Derived.Test.YtopfbgoiehlhbaaM03

/- ipsix in plain numbers; ipsix.lengthOf, ipsix.fault. -/
namespace Go.Proofs.Ytopfbgoiehlhbaa
open Go.RowKit

/-- The reason why what begins with a header can't be taken, or 0. -/
def f6 (zs : List Nat) : Nat :=
  if zs.length < 40 then 1
  else if zs.getD 0 0 / 16 ≠ 6 then 3
  else if zs.length < 40 + u2 zs 4 then 1
  else if zs.getD 6 0 = 44 then 5
  else if zs.getD 6 0 ≠ 6 ∧ zs.getD 6 0 ≠ 17 then 6 else 0
theorem f6_lt (zs : List Nat) : f6 zs < 7 := by unfold f6; repeat' split
                                                all_goals omega
theorem f6_yes (zs : List Nat) (h : f6 zs = 0) : 40 ≤ zs.length ∧ zs.getD 0 0 / 16 = 6 ∧ 40 + u2 zs 4 ≤ zs.length ∧ (zs.getD 6 0 = 6 ∨ zs.getD 6 0 = 17) := by
  unfold f6 at h
  repeat' split at h
  all_goals omega
/-- The cells of a header. -/
def scells (l p : Nat) (S D : Array Value) : Array Value := (Value.int .i64 (l : Int) :: .int .u8 (p : Int) :: (S.toList ++ D.toList)).toArray
theorem scells_size (l p : Nat) (S D : Array Value) (hS : S.size = 17) (hD : D.size = 17) : (scells l p S D).size = 36 := by simp [scells, hS, hD]
theorem scells_all (l p : Nat) (S D : Array Value) (hS : S.all (·.oneCell') = true) (hD : D.all (·.oneCell') = true) : (scells l p S D).all (·.oneCell') = true := by
  rw [Array.all_eq_true_iff_forall_mem] at *
  intro x hx
  simp only [scells, List.mem_toArray, List.mem_cons, List.mem_append, Array.mem_toList_iff] at hx
  rcases hx with rfl | rfl | h | h
  · rfl
  · rfl
  · exact hS x h
  · exact hD x h
theorem scells_src (l p : Nat) (S D : Array Value) : ((scells l p S D).toList.drop 2).take S.toList.length = S.toList := by simp [scells]
theorem scells_dst (l p : Nat) (S D : Array Value) (hS : S.size = 17) : ((scells l p S D).toList.drop 19).take D.toList.length = D.toList := by
  have : S.toList.length = 17 := by simpa using hS
  show ((S.toList ++ D.toList).drop 17).take _ = _
  rw [← this, List.drop_left, List.take_length]
theorem scells_get (l p : Nat) (S D : Array Value) : (scells l p S D)[0]? = some (.int .i64 (l : Int)) ∧ (scells l p S D)[1]? = some (.int .u8 (p : Int)) := ⟨rfl, rfl⟩
/-- An address of sixteen bytes. -/
def z17 : Array Value := cellsA false (List.replicate 16 0)
theorem z17_size : z17.size = 17 := rfl
theorem z17_all : z17.all (·.oneCell') = true := cellsA_all _ _
/-- Nothing. -/
def s0 : Array Value := scells 0 0 z17 z17
theorem s0_size : s0.size = 36 := rfl
theorem s0_all : s0.all (·.oneCell') = true := scells_all _ _ _ _ z17_all z17_all
/-- What is read: the cells of the header. -/
def srcA (zs : List Nat) : Array Value := cellsA true ((zs.drop 8).take 16)
def dstA (zs : List Nat) : Array Value := cellsA true ((zs.drop 24).take 16)
def hd6 (zs : List Nat) : Array Value := if f6 zs = 0 then scells (40 + u2 zs 4) (zs.getD 6 0) (srcA zs) (dstA zs) else s0
theorem ad_size (zs : List Nat) (h : 40 ≤ zs.length) : (srcA zs).size = 17 ∧ (dstA zs).size = 17 := by
  unfold srcA dstA
  rw [cellsA_size, cellsA_size]
  simp; omega
theorem hd6_size (zs : List Nat) : (hd6 zs).size = 36 := by
  unfold hd6
  split
  · rename_i h
    have := ad_size zs (f6_yes zs h).1
    exact scells_size _ _ _ _ this.1 this.2
  · rfl
theorem hd6_all (zs : List Nat) : (hd6 zs).all (·.oneCell') = true := by
  unfold hd6
  split
  · exact scells_all _ _ _ _ (cellsA_all _ _) (cellsA_all _ _)
  · exact s0_all
end Go.Proofs.Ytopfbgoiehlhbaa

/- A call that leaves the world as it was, as one that only makes memory. Nothing of the program. -/
namespace Go.Proofs.Ytopfbgoiehlhbaa
open Go.RowKit

theorem same_below {P : Program} {f : Nat} {args : Array Value} {W : World} {x : Ending} (h : Calls P f args W fun e w' => e = x ∧ W = w') : Calls P f args W fun e w' => e = x ∧ Below W.heap.size W w' :=
  h.mono fun _ _ ⟨h1, h2⟩ => ⟨h1, h2 ▸ Below.refl _ _⟩
theorem rd_cell {w : World} {b off n : Nat} {v : Value} (h : w.cell? ⟨b, off + n, none⟩ = some v) : b < w.heap.size := by
  rcases Nat.lt_or_ge b w.heap.size with hlt | hge
  · exact hlt
  · simp [World.cell?, Array.getElem?_eq_none hge] at h
end Go.Proofs.Ytopfbgoiehlhbaa

/- A load whose value is known, under a guard that holds. Nothing of the program. -/
namespace Go.Proofs.Ytopfbgoiehlhbaa
open Go.RowKit
theorem wpList_load_want {P : Program} {ops : Array Oper} {rest : List Oper} {op : Oper} {a : Act} {w : World} {Q : Exit → Act → World → Prop} (hw : Region.wanted op (yielded ops a.tmps) = true) (ty : TypeId) (x : Operand) (ho : op.op = .load ty x)
    (p : Addr) (hx : a.eval x = .pointer (some p)) (v : Value) (hl : (loadVar ty p).run P w = .ok v w) (h : wpList P ops Q rest (a.put op.dst v) w) : wpList P ops Q (op :: rest) a w :=
  BigFrame.wpList_want hw fun K hK => by
    unfold Oper.wp
    simp only [exec_load ty x ho p hx v hl]
    exact hK _ _ h
end Go.Proofs.Ytopfbgoiehlhbaa

/- bazaarref1.Six. -/
namespace Go.Proofs.Ytopfbgoiehlhbaa
open Go.RowKit

/-- The cells of the document's header. -/
def rcells (s l p : Nat) (S D : Array Value) : Array Value := (Value.int .i64 (s : Int) :: .int .i64 (l : Int) :: .int .u8 (p : Int) :: (S.toList ++ D.toList)).toArray
theorem rcells_size (s l p : Nat) (S D : Array Value) (hS : S.size = 17) (hD : D.size = 17) : (rcells s l p S D).size = 37 := by simp [rcells, hS, hD]
theorem rcells_all (s l p : Nat) (S D : Array Value) (hS : S.all (·.oneCell') = true) (hD : D.all (·.oneCell') = true) : (rcells s l p S D).all (·.oneCell') = true := by
  rw [Array.all_eq_true_iff_forall_mem] at *
  intro x hx
  simp only [rcells, List.mem_toArray, List.mem_cons, List.mem_append, Array.mem_toList_iff] at hx
  rcases hx with rfl | rfl | rfl | h | h
  · rfl
  · rfl
  · rfl
  · exact hS x h
  · exact hD x h
theorem rcells_src (s l p : Nat) (S D : Array Value) : ((rcells s l p S D).toList.drop 3).take S.toList.length = S.toList := by simp [rcells]
theorem rcells_dst (s l p : Nat) (S D : Array Value) (hS : S.size = 17) : ((rcells s l p S D).toList.drop 20).take D.toList.length = D.toList := by
  have : S.toList.length = 17 := by simpa using hS
  show ((S.toList ++ D.toList).drop 17).take _ = _
  rw [← this, List.drop_left, List.take_length]
theorem rcells_get (s l p : Nat) (S D : Array Value) : (rcells s l p S D)[0]? = some (.int .i64 (s : Int)) ∧ (rcells s l p S D)[1]? = some (.int .i64 (l : Int)) ∧ (rcells s l p S D)[2]? = some (.int .u8 (p : Int)) := ⟨rfl, rfl, rfl⟩
def r0 : Array Value := rcells 0 0 0 z17 z17
theorem r0_size : r0.size = 37 := rfl
theorem r0_all : r0.all (·.oneCell') = true := rcells_all _ _ _ _ _ z17_all z17_all
/-- What is read: the cells of the document's header. -/
def rd6 (zs : List Nat) : Array Value := if f6 zs = 0 then rcells 40 (40 + u2 zs 4) (zs.getD 6 0) (srcA zs) (dstA zs) else r0
theorem rd6_size (zs : List Nat) : (rd6 zs).size = 37 := by
  unfold rd6
  split
  · rename_i h
    have := ad_size zs (f6_yes zs h).1
    exact rcells_size _ _ _ _ _ this.1 this.2
  · rfl
theorem rd6_all (zs : List Nat) : (rd6 zs).all (·.oneCell') = true := by
  unfold rd6
  split
  · exact rcells_all _ _ _ _ _ (cellsA_all _ _) (cellsA_all _ _)
  · exact r0_all
theorem i37 : (Try.prog.info? 56).map (·.size) = some 37 := by kernel_rfl
set_option maxRecDepth 100000 in
theorem built_r (s l p : Nat) (S D : Array Value) (hS : S.size = 17) (hD : D.size = 17) : Try.prog.built 56 [(0, .int .i64 (s : Int)), (1, .int .i64 (l : Int)), (2, .int .u8 (p : Int)), (3, .agg S), (4, .agg D)] = some (rcells s l p S D) := by
  obtain ⟨x0, x1, x2, x3, x4, x5, x6, x7, x8, x9, x10, x11, x12, x13, x14, x15, x16, rfl⟩ := arr17 S hS
  obtain ⟨y0, y1, y2, y3, y4, y5, y6, y7, y8, y9, y10, y11, y12, y13, y14, y15, y16, rfl⟩ := arr17 D hD
  kernel_rfl

theorem be16_b (a : Option Addr) (len cap : Nat) (k : Nat) (zs : List Nat) (w : World) (hr : Rd w (.slice a len cap) (nus .u8 zs)) (hb : ∀ c ∈ zs, c < 256) (hk : k + 2 ≤ zs.length) :
    Calls Try.prog 26 #[.slice a len cap, .int .i64 (k : Int)] w fun e w' => e = .returned (.int .i64 (u2 zs k : Nat)) ∧ Below w.heap.size w w' :=
  (be16_any a len cap k zs w hr hb hk).mono fun e w1 hh => ⟨hh.1, by obtain ⟨n, h⟩ := hh.2; rw [h]; exact below_drewN (Below.refl _ _) n⟩
set_option maxRecDepth 100000 in
set_option maxHeartbeats 1000000 in
theorem rsix_short (v : Value) (zs : List Nat) (w : World) (hr : Rd w v (nus .u8 zs)) (h40 : zs.length < 40) :
    Calls Try.prog 24 #[v] w fun e w' => e = .returned (.tuple #[.agg r0, .int .i64 1]) ∧ Below w.heap.size w w' := by
  have K := Lib.hid (Below.refl w.heap.size w)
  obtain ⟨a, cap, rfl, -, hlm⟩ := rd_shape hr
  have Y0 : Hid (r0.size = Array.size (#[Value.int .i64 0, .int .i64 0, .int .u8 0, .bool false, .int .u8 0, .int .u8 0, .int .u8 0, .int .u8 0, .int .u8 0, .int .u8 0, .int .u8 0, .int .u8 0, .int .u8 0, .int .u8 0, .int .u8 0, .int .u8 0, .int .u8 0, .int .u8 0, .int .u8 0, .int .u8 0, .bool false, .int .u8 0, .int .u8 0, .int .u8 0, .int .u8 0, .int .u8 0, .int .u8 0, .int .u8 0, .int .u8 0, .int .u8 0, .int .u8 0, .int .u8 0, .int .u8 0, .int .u8 0, .int .u8 0, .int .u8 0, .int .u8 0] : Array Value)) := r0_size
  have Z0 := Lib.hid (i37.trans (congrArg some r0_size.symm))
  have A0 := Lib.hid r0_all
  unfold maxLen at hlm
  generalize zs.length = n at *
  clear hr
  go_enter Try.func24, Try.ntmps24
  have hal := (Below.refl w.heap.size w).alloc (Nat.le_refl _) (.cells #[Value.int .i64 0, .int .i64 0, .int .u8 0, .bool false, .int .u8 0, .int .u8 0, .int .u8 0, .int .u8 0, .int .u8 0, .int .u8 0, .int .u8 0, .int .u8 0, .int .u8 0, .int .u8 0, .int .u8 0, .int .u8 0, .int .u8 0, .int .u8 0, .int .u8 0, .int .u8 0, .bool false, .int .u8 0, .int .u8 0, .int .u8 0, .int .u8 0, .int .u8 0, .int .u8 0, .int .u8 0, .int .u8 0, .int .u8 0, .int .u8 0, .int .u8 0, .int .u8 0, .int .u8 0, .int .u8 0, .int .u8 0, .int .u8 0] 56)
  replace K := Lib.hid (K.out.trans (hal.mono K.out.size))
  have HH := Lib.hid (Blk.new w 56 #[Value.int .i64 0, .int .i64 0, .int .u8 0, .bool false, .int .u8 0, .int .u8 0, .int .u8 0, .int .u8 0, .int .u8 0, .int .u8 0, .int .u8 0, .int .u8 0, .int .u8 0, .int .u8 0, .int .u8 0, .int .u8 0, .int .u8 0, .int .u8 0, .int .u8 0, .int .u8 0, .bool false, .int .u8 0, .int .u8 0, .int .u8 0, .int .u8 0, .int .u8 0, .int .u8 0, .int .u8 0, .int .u8 0, .int .u8 0, .int .u8 0, .int .u8 0, .int .u8 0, .int .u8 0, .int .u8 0, .int .u8 0, .int .u8 0])
  clear hal
  go_wp2_with (((with_reducible refine wpList_blk_store (op := ⟨none, .store 56 (.tmp 2) (.tmp 12), _, _, _, _⟩) ?sg1 56 (.tmp 2) (.tmp 12) ?so1 (w.heap.size) r0 ?sx1 ?sy1 HH.out Y0.out Z0.out A0.out ?_); (case sg1 => rfl); (case so1 => rfl); (case sx1 => rfl); (case sy1 => rfl)))
  intro V1 hA hF hB
  replace K := Lib.hid (K.out.trans (hB _ (by omega)))
  replace HH := Lib.hid hA
  clear hA hF hB
  go_wp2
  have hrun := run_blk_load (P := Try.prog) 56 w.heap.size _ HH.out Try.underlying56 rfl Z0.out
  exact bodyPost_ret (results_cell_tmp 2 56 3 w.heap.size _ Try.results24 rfl hrun) rfl ⟨rfl, K.out⟩

set_option maxRecDepth 100000 in
set_option maxHeartbeats 4000000 in
theorem rsix_long (v : Value) (zs : List Nat) (w : World) (hr : Rd w v (nus .u8 zs)) (hb : ∀ c ∈ zs, c < 256) (h40 : ¬ zs.length < 40) :
    Calls Try.prog 24 #[v] w fun e w' => e = .returned (.tuple #[.agg (rd6 zs), .int .i64 (f6 zs : Nat)]) ∧ Below w.heap.size w w' := by
  have K := Lib.hid (Below.refl w.heap.size w)
  have HR := Lib.hid hr
  obtain ⟨a, cap, rfl, hlc, hlm⟩ := rd_shape hr
  obtain ⟨b, off, rfl, hce⟩ := hr.cells (by omega)
  have C6 := hce 6 (by omega)
  have C0 := hce 0 (by omega)
  have hb0 := rd_cell C6
  rw [Nat.add_zero] at C0
  have c6 := Lib.hid C6
  have c0 := Lib.hid C0
  have HS := Lib.hid (hr.sub 8 16 (by omega))
  have HD := Lib.hid (hr.sub 24 16 (by omega))
  have CB := Lib.hid (fun W (h : Rd W (.slice (some ⟨b, off, none⟩) zs.length cap) (nus .u8 zs)) => be16_b _ _ _ 4 zs W h hb (by omega))
  have l1 : ((zs.drop 8).take 16).length = 16 := by simp; omega
  have l2 : ((zs.drop 24).take 16).length = 16 := by simp; omega
  have C1 := Lib.hid (fun w' z (hw : Rd w' z (nus .u8 ((zs.drop 8).take 16))) => rfrom_ok z true _ w' hw (.inr ⟨l1, rfl⟩))
  have C2 := Lib.hid (fun w' z (hw : Rd w' z (nus .u8 ((zs.drop 24).take 16))) => rfrom_ok z true _ w' hw (.inr ⟨l2, rfl⟩))
  rw [l1, show (zs.drop 8).take 16 ++ List.replicate (16 - 16) 0 = (zs.drop 8).take 16 from by simp, show adr true ((zs.drop 8).take 16) = .agg (srcA zs) from rfl] at C1
  rw [l2, show (zs.drop 24).take 16 ++ List.replicate (16 - 16) 0 = (zs.drop 24).take 16 from by simp, show adr true ((zs.drop 24).take 16) = .agg (dstA zs) from rfl] at C2
  obtain ⟨sS, sD⟩ := ad_size zs (by omega)
  have aS : (srcA zs).all (·.oneCell') = true := cellsA_all _ _
  have aD : (dstA zs).all (·.oneCell') = true := cellsA_all _ _
  have hx := getD_lt zs hb 0
  have hp := getD_lt zs hb 6
  have hl := u2_lt zs 4 hb
  have hh : rd6 zs = if f6 zs = 0 then rcells 40 (40 + u2 zs 4) (zs.getD 6 0) (srcA zs) (dstA zs) else r0 := rfl
  have hf : f6 zs = _ := rfl
  conv at hf => rhs; unfold f6
  rw [if_neg h40] at hf
  have HH0 := Lib.hid hh
  have HF := Lib.hid hf
  clear hh hf
  generalize rd6 zs = HV at *
  generalize f6 zs = F at *
  generalize srcA zs = S at *
  generalize dstA zs = D at *
  generalize u2 zs 4 = l at *
  generalize zs.getD 6 0 = p at *
  generalize zs.getD 0 0 = x at *
  have hbd := built_r 40 (40 + l) p S D sS sD
  have hs := rcells_size 40 (40 + l) p S D sS sD
  have ha := rcells_all 40 (40 + l) p S D aS aD
  have HG := Lib.hid (rcells_get 40 (40 + l) p S D)
  generalize rcells 40 (40 + l) p S D = H at *
  have HBD := Lib.hid hbd
  have HW := Lib.hid (show IntKind.i64.wrap (40 + (l : Int)) = ((40 + l : Nat) : Int) by rw [IntKind.wrap_i64]; omega)
  have YS : Hid (S.size = Array.size (#[Value.bool false, .int .u8 0, .int .u8 0, .int .u8 0, .int .u8 0, .int .u8 0, .int .u8 0, .int .u8 0, .int .u8 0, .int .u8 0, .int .u8 0, .int .u8 0, .int .u8 0, .int .u8 0, .int .u8 0, .int .u8 0, .int .u8 0] : Array Value)) := sS
  have ZS := Lib.hid (i24.trans (congrArg some sS.symm))
  have AS := Lib.hid aS
  have YD : Hid (D.size = Array.size (#[Value.bool false, .int .u8 0, .int .u8 0, .int .u8 0, .int .u8 0, .int .u8 0, .int .u8 0, .int .u8 0, .int .u8 0, .int .u8 0, .int .u8 0, .int .u8 0, .int .u8 0, .int .u8 0, .int .u8 0, .int .u8 0, .int .u8 0] : Array Value)) := sD
  have ZD := Lib.hid (i24.trans (congrArg some sD.symm))
  have AD := Lib.hid aD
  have YH : Hid (H.size = Array.size (#[Value.int .i64 0, .int .i64 0, .int .u8 0, .bool false, .int .u8 0, .int .u8 0, .int .u8 0, .int .u8 0, .int .u8 0, .int .u8 0, .int .u8 0, .int .u8 0, .int .u8 0, .int .u8 0, .int .u8 0, .int .u8 0, .int .u8 0, .int .u8 0, .int .u8 0, .int .u8 0, .bool false, .int .u8 0, .int .u8 0, .int .u8 0, .int .u8 0, .int .u8 0, .int .u8 0, .int .u8 0, .int .u8 0, .int .u8 0, .int .u8 0, .int .u8 0, .int .u8 0, .int .u8 0, .int .u8 0, .int .u8 0, .int .u8 0] : Array Value)) := hs
  have ZH := Lib.hid (i37.trans (congrArg some hs.symm))
  have AH := Lib.hid ha
  have YR : Hid (r0.size = Array.size (#[Value.int .i64 0, .int .i64 0, .int .u8 0, .bool false, .int .u8 0, .int .u8 0, .int .u8 0, .int .u8 0, .int .u8 0, .int .u8 0, .int .u8 0, .int .u8 0, .int .u8 0, .int .u8 0, .int .u8 0, .int .u8 0, .int .u8 0, .int .u8 0, .int .u8 0, .int .u8 0, .bool false, .int .u8 0, .int .u8 0, .int .u8 0, .int .u8 0, .int .u8 0, .int .u8 0, .int .u8 0, .int .u8 0, .int .u8 0, .int .u8 0, .int .u8 0, .int .u8 0, .int .u8 0, .int .u8 0, .int .u8 0, .int .u8 0] : Array Value)) := r0_size
  have ZR := Lib.hid (i37.trans (congrArg some r0_size.symm))
  have AR := Lib.hid r0_all
  unfold maxLen at hlm
  have h6n : (6 : Int) < (zs.length : Int) := by omega
  clear hr hb hce sS sD aS aD hs ha hbd l1 l2 C6 C0
  generalize zs.length = n at *
  go_enter Try.func24, Try.ntmps24
  have hal := (Below.refl w.heap.size w).alloc (Nat.le_refl _) (.cells #[Value.int .i64 0, .int .i64 0, .int .u8 0, .bool false, .int .u8 0, .int .u8 0, .int .u8 0, .int .u8 0, .int .u8 0, .int .u8 0, .int .u8 0, .int .u8 0, .int .u8 0, .int .u8 0, .int .u8 0, .int .u8 0, .int .u8 0, .int .u8 0, .int .u8 0, .int .u8 0, .bool false, .int .u8 0, .int .u8 0, .int .u8 0, .int .u8 0, .int .u8 0, .int .u8 0, .int .u8 0, .int .u8 0, .int .u8 0, .int .u8 0, .int .u8 0, .int .u8 0, .int .u8 0, .int .u8 0, .int .u8 0, .int .u8 0] 56)
  replace K := Lib.hid (K.out.trans (hal.mono K.out.size))
  replace HR := Lib.hid (HR.out.below hal)
  replace HS := Lib.hid (HS.out.below hal)
  replace HD := Lib.hid (HD.out.below hal)
  have HH := Lib.hid (Blk.new w 56 #[Value.int .i64 0, .int .i64 0, .int .u8 0, .bool false, .int .u8 0, .int .u8 0, .int .u8 0, .int .u8 0, .int .u8 0, .int .u8 0, .int .u8 0, .int .u8 0, .int .u8 0, .int .u8 0, .int .u8 0, .int .u8 0, .int .u8 0, .int .u8 0, .int .u8 0, .int .u8 0, .bool false, .int .u8 0, .int .u8 0, .int .u8 0, .int .u8 0, .int .u8 0, .int .u8 0, .int .u8 0, .int .u8 0, .int .u8 0, .int .u8 0, .int .u8 0, .int .u8 0, .int .u8 0, .int .u8 0, .int .u8 0, .int .u8 0])
  clear hal
  go_wp2_with fail
  generalize (w.alloc (.cells #[Value.int .i64 0, .int .i64 0, .int .u8 0, .bool false, .int .u8 0, .int .u8 0, .int .u8 0, .int .u8 0, .int .u8 0, .int .u8 0, .int .u8 0, .int .u8 0, .int .u8 0, .int .u8 0, .int .u8 0, .int .u8 0, .int .u8 0, .int .u8 0, .int .u8 0, .int .u8 0, .bool false, .int .u8 0, .int .u8 0, .int .u8 0, .int .u8 0, .int .u8 0, .int .u8 0, .int .u8 0, .int .u8 0, .int .u8 0, .int .u8 0, .int .u8 0, .int .u8 0, .int .u8 0, .int .u8 0, .int .u8 0, .int .u8 0] 56)) = V1 at *
  refine (C1.out _ _ HS.out).mono ?_
  rintro e V2 ⟨rfl, hy⟩
  replace K := Lib.hid (K.out.trans (hy.mono K.out.size))
  replace HR := Lib.hid (HR.out.below hy)
  replace HS := Lib.hid (HS.out.below hy)
  replace HD := Lib.hid (HD.out.below hy)
  replace HH := Lib.hid (HH.out.below hy HH.out.lt)
  clear hy
  go_wp2_with (((with_reducible refine wpList_blk_store (op := ⟨none, .store 26 (.tmp 4) (.tmp 17), _, _, _, _⟩) ?sg2 26 (.tmp 4) (.tmp 17) ?so2 (V2.heap.size) S ?sx2 ?sy2 (Blk.new V2 26 #[Value.bool false, .int .u8 0, .int .u8 0, .int .u8 0, .int .u8 0, .int .u8 0, .int .u8 0, .int .u8 0, .int .u8 0, .int .u8 0, .int .u8 0, .int .u8 0, .int .u8 0, .int .u8 0, .int .u8 0, .int .u8 0, .int .u8 0]) YS.out ZS.out AS.out ?_); (case sg2 => rfl); (case so2 => rfl); (case sx2 => rfl); (case sy2 => rfl)))
  have qHHNS : w.heap.size < V2.heap.size := HH.out.lt
  intro V3 hA hF hB
  have hy := ((Below.refl V2.heap.size V2).alloc (Nat.le_refl _) (.cells #[Value.bool false, .int .u8 0, .int .u8 0, .int .u8 0, .int .u8 0, .int .u8 0, .int .u8 0, .int .u8 0, .int .u8 0, .int .u8 0, .int .u8 0, .int .u8 0, .int .u8 0, .int .u8 0, .int .u8 0, .int .u8 0, .int .u8 0] 26)).trans (hB _ (Nat.le_refl _))
  replace K := Lib.hid (K.out.trans (hy.mono K.out.size))
  replace HR := Lib.hid (HR.out.below hy)
  replace HS := Lib.hid (HS.out.below hy)
  replace HD := Lib.hid (HD.out.below hy)
  replace HH := Lib.hid (HH.out.below hy HH.out.lt)
  have NS := Lib.hid hA
  clear hA hF hB hy
  go_wp2_with fail
  refine (C2.out _ _ HD.out).mono ?_
  rintro e V4 ⟨rfl, hy⟩
  replace K := Lib.hid (K.out.trans (hy.mono K.out.size))
  replace HR := Lib.hid (HR.out.below hy)
  replace HS := Lib.hid (HS.out.below hy)
  replace HD := Lib.hid (HD.out.below hy)
  replace HH := Lib.hid (HH.out.below hy HH.out.lt)
  replace NS := Lib.hid (NS.out.below hy NS.out.lt)
  clear hy
  go_wp2_with (((with_reducible refine wpList_blk_store (op := ⟨none, .store 26 (.tmp 6) (.tmp 23), _, _, _, _⟩) ?sg3 26 (.tmp 6) (.tmp 23) ?so3 (V4.heap.size) D ?sx3 ?sy3 (Blk.new V4 26 #[Value.bool false, .int .u8 0, .int .u8 0, .int .u8 0, .int .u8 0, .int .u8 0, .int .u8 0, .int .u8 0, .int .u8 0, .int .u8 0, .int .u8 0, .int .u8 0, .int .u8 0, .int .u8 0, .int .u8 0, .int .u8 0, .int .u8 0]) YD.out ZD.out AD.out ?_); (case sg3 => rfl); (case so3 => rfl); (case sx3 => rfl); (case sy3 => rfl)))
  have qHHND : w.heap.size < V4.heap.size := HH.out.lt
  have qNSND : V2.heap.size < V4.heap.size := NS.out.lt
  intro V5 hA hF hB
  have hy := ((Below.refl V4.heap.size V4).alloc (Nat.le_refl _) (.cells #[Value.bool false, .int .u8 0, .int .u8 0, .int .u8 0, .int .u8 0, .int .u8 0, .int .u8 0, .int .u8 0, .int .u8 0, .int .u8 0, .int .u8 0, .int .u8 0, .int .u8 0, .int .u8 0, .int .u8 0, .int .u8 0, .int .u8 0] 26)).trans (hB _ (Nat.le_refl _))
  replace K := Lib.hid (K.out.trans (hy.mono K.out.size))
  replace HR := Lib.hid (HR.out.below hy)
  replace HS := Lib.hid (HS.out.below hy)
  replace HD := Lib.hid (HD.out.below hy)
  replace HH := Lib.hid (HH.out.below hy HH.out.lt)
  replace NS := Lib.hid (NS.out.below hy NS.out.lt)
  have ND := Lib.hid hA
  clear hA hF hB hy
  go_upto_region 5 with fail
  have hlow : V5.heap.size ≤ V5.heap.size := Nat.le_refl _
  have qHH : w.heap.size < V5.heap.size := HH.out.lt
  have qK := K.out.size
  have qNS := NS.out.lt
  have qND := ND.out.lt
  go_cut [8] (fun v wx => ∃ g, v = .pointer (some ⟨g, 0, none⟩) ∧ Blk wx g 56 H ∧ Blk wx w.heap.size 56 #[Value.int .i64 0, .int .i64 0, .int .u8 0, .bool false, .int .u8 0, .int .u8 0, .int .u8 0, .int .u8 0, .int .u8 0, .int .u8 0, .int .u8 0, .int .u8 0, .int .u8 0, .int .u8 0, .int .u8 0, .int .u8 0, .int .u8 0, .int .u8 0, .int .u8 0, .int .u8 0, .bool false, .int .u8 0, .int .u8 0, .int .u8 0, .int .u8 0, .int .u8 0, .int .u8 0, .int .u8 0, .int .u8 0, .int .u8 0, .int .u8 0, .int .u8 0, .int .u8 0, .int .u8 0, .int .u8 0, .int .u8 0, .int .u8 0] ∧ w.heap.size < g ∧ Below w.heap.size w wx)
  case first =>
    refine wp_region_held (S := (fun w' : World => Below (V5.heap.size) V5 w')) (by kernel_rfl) ?_
    change wpAnyH _ _ _ _ _ _ _ _ V5.drew
    have hy : Below V5.heap.size V5 V5.drew := (Below.refl _ _).drew
    have hE0 : Below (V5.heap.size) V5 V5.drew := (Below.refl _ _).drew
    clear hy
    generalize V5.drew = Y5x0 at hE0  ⊢
    have E0 := Lib.hid hE0
    clear hE0
    refine wpAnyH_take (i := 0) (oi := { dst := some 25, op := Op.move (Operand.tmp 0), type := 22, pos := "frame.go:249", after := #[], guard := none }) (v := ?_) rfl (by kernel_rfl) (by kernel_rfl) (by kernel_rfl) (fun _ _ _ h => h) (Or.inl ⟨by rfl, ?_⟩) E0.out ?_
    rotate_left
    · (intro w1 hS; go_simp; try with_reducible rfl)
    simp only [Act.put, List.setIfInBounds_toArray, List.set_cons_zero, List.set_cons_succ]
    refine wpAnyH_take (i := 3) (oi := { dst := some 28, op := Op.move (Operand.tmp 0), type := 22, pos := "frame.go:249", after := #[], guard := none }) (v := ?_) rfl (by kernel_rfl) (by kernel_rfl) (by kernel_rfl) (fun _ _ _ h => h) (Or.inl ⟨by rfl, ?_⟩) E0.out ?_
    rotate_left
    · (intro w1 hS; go_simp; try with_reducible rfl)
    simp only [Act.put, List.setIfInBounds_toArray, List.set_cons_zero, List.set_cons_succ]
    refine wpAnyH_take (i := 4) (oi := { dst := some 29, op := Op.indexAddr 22 (Operand.tmp 28) (Operand.const (Value.int IntKind.i64 6)), type := 0, pos := "frame.go:249", after := #[{ on := 3, ground := Ground.data }], guard := none }) (v := ?_) rfl (by kernel_rfl) (by kernel_rfl) (by kernel_rfl) (fun _ _ _ h => h) (Or.inl ⟨by rfl, ?_⟩) E0.out ?_
    rotate_left
    · (intro w1 hS; have hW := hS; have q := (K.out.trans (hW.mono K.out.size)).cell (p := ⟨b, off + 6, none⟩) hb0 |>.trans c6.out; clear hW hS; go_simp; try with_reducible rfl)
    simp only [Act.put, List.setIfInBounds_toArray, List.set_cons_zero, List.set_cons_succ]
    refine wpAnyH_take (i := 5) (oi := { dst := some 30, op := Op.load 5 (Operand.tmp 29), type := 5, pos := "frame.go:249", after := #[{ on := 4, ground := Ground.data }], guard := none }) (v := ?_) rfl (by kernel_rfl) (by kernel_rfl) (by kernel_rfl) (fun _ _ _ h => h) (Or.inl ⟨by rfl, ?_⟩) E0.out ?_
    rotate_left
    · (intro w1 hS; have hW := hS; have q := (K.out.trans (hW.mono K.out.size)).cell (p := ⟨b, off + 6, none⟩) hb0 |>.trans c6.out; clear hW hS; go_simp; try with_reducible rfl)
    simp only [Act.put, List.setIfInBounds_toArray, List.set_cons_zero, List.set_cons_succ]
    refine wpAnyH_take (i := 6) (oi := { dst := some 31, op := Op.load 26 (Operand.tmp 4), type := 26, pos := "frame.go:249", after := #[], guard := none }) (v := .agg S) rfl (by kernel_rfl) (by kernel_rfl) (by kernel_rfl) (fun _ _ _ h => h) (Or.inl ⟨by rfl, ?_⟩) E0.out ?_
    · (intro w1 hS; have hW := hS; exact exec_load 26 (.tmp 4) rfl _ rfl _ (run_blk_load (P := Try.prog) 26 (V2.heap.size) _ (NS.out.below hW (by omega)) Try.underlying26 rfl ZS.out))
    simp only [Act.put, List.setIfInBounds_toArray, List.set_cons_zero, List.set_cons_succ]
    refine wpAnyH_take (i := 7) (oi := { dst := some 32, op := Op.load 26 (Operand.tmp 6), type := 26, pos := "frame.go:249", after := #[], guard := none }) (v := .agg D) rfl (by kernel_rfl) (by kernel_rfl) (by kernel_rfl) (fun _ _ _ h => h) (Or.inl ⟨by rfl, ?_⟩) E0.out ?_
    · (intro w1 hS; have hW := hS; exact exec_load 26 (.tmp 6) rfl _ rfl _ (run_blk_load (P := Try.prog) 26 (V4.heap.size) _ (ND.out.below hW (by omega)) Try.underlying26 rfl ZD.out))
    simp only [Act.put, List.setIfInBounds_toArray, List.set_cons_zero, List.set_cons_succ]
    refine wpAnyH_ready (rs := [1, 9]) (by kernel_rfl) (by simp) ?_
    refine AllReadyH.cons (o := { dst := some 26, op := Op.call { callee := Callee.value (Operand.func 26), args := #[Operand.tmp 25, Operand.const (Value.int IntKind.i64 4)], argTypes := #[22, 3] }, type := 3, pos := "frame.go:249", after := #[{ on := 0, ground := Ground.data }], guard := none }) rfl (fun K hK => ?_) ?_
    · go_simp
      refine (CB.out Y5x0 (HR.out.below E0.out)).mono ?_
      rintro e Y5x1 ⟨rfl, hy⟩
      have E1 := Lib.hid (E0.out.trans (hy.mono (Nat.le_trans hlow E0.out.size)))
      have C1 := Lib.hid E1.out
      clear hy E0
      refine hK.out _ _ C1.out (fun _ => ?_)
      clear hK K
      clear C1
      try simp only [Act.put, List.setIfInBounds_toArray, List.set_cons_zero, List.set_cons_succ]
      refine wpAnyH_take (i := 2) (oi := { dst := some 27, op := Op.binOp BinOp.add 3 (Operand.const (Value.int IntKind.i64 40)) (Operand.tmp 26) 3, type := 3, pos := "frame.go:249", after := #[{ on := 1, ground := Ground.data }], guard := none }) (v := ?_) rfl (by kernel_rfl) (by kernel_rfl) (by kernel_rfl) (fun _ _ _ h => h) (Or.inl ⟨by rfl, ?_⟩) E1.out ?_
      rotate_left
      · (intro w1 hS; have hW := hS; have q := HW.out; clear hW hS; go_simp; try with_reducible rfl)
      simp only [Act.put, List.setIfInBounds_toArray, List.set_cons_zero, List.set_cons_succ]
      refine wpAnyH_take (i := 8) (oi := { dst := some 33, op := Op.build 56 #[(0, Operand.const (Value.int IntKind.i64 40)), (1, Operand.tmp 27), (2, Operand.tmp 30), (3, Operand.tmp 31), (4, Operand.tmp 32)], type := 56, pos := "frame.go:249", after := #[{ on := 2, ground := Ground.data }, { on := 5, ground := Ground.data }, { on := 6, ground := Ground.data }, { on := 7, ground := Ground.data }], guard := none }) (v := .agg H) rfl (by kernel_rfl) (by kernel_rfl) (by kernel_rfl) (fun _ _ _ h => h) (Or.inl ⟨by rfl, ?_⟩) E1.out ?_
      · (intro w1 hS; exact exec_build 56 _ rfl #[(0, .int .i64 40), (1, .int .i64 ((40 + l : Nat) : Int)), (2, .int .u8 (p : Int)), (3, .agg S), (4, .agg D)] (by kernel_rfl) H HBD.out)
      simp only [Act.put, List.setIfInBounds_toArray, List.set_cons_zero, List.set_cons_succ]
      refine wpAnyH_ready (rs := [9]) (by kernel_rfl) (by simp) ?_
      refine AllReadyH.cons (o := { dst := some 8, op := Op.alloc 56, type := 0, pos := "frame.go:249", after := #[], guard := none }) rfl (fun K hK => ?_) AllReadyH.nil
      go_simp
      have NH := Blk.new Y5x1 56 #[Value.int .i64 0, .int .i64 0, .int .u8 0, .bool false, .int .u8 0, .int .u8 0, .int .u8 0, .int .u8 0, .int .u8 0, .int .u8 0, .int .u8 0, .int .u8 0, .int .u8 0, .int .u8 0, .int .u8 0, .int .u8 0, .int .u8 0, .int .u8 0, .int .u8 0, .int .u8 0, .bool false, .int .u8 0, .int .u8 0, .int .u8 0, .int .u8 0, .int .u8 0, .int .u8 0, .int .u8 0, .int .u8 0, .int .u8 0, .int .u8 0, .int .u8 0, .int .u8 0, .int .u8 0, .int .u8 0, .int .u8 0, .int .u8 0]
      have hy := (Below.refl Y5x1.heap.size Y5x1).alloc (Nat.le_refl _) (.cells #[Value.int .i64 0, .int .i64 0, .int .u8 0, .bool false, .int .u8 0, .int .u8 0, .int .u8 0, .int .u8 0, .int .u8 0, .int .u8 0, .int .u8 0, .int .u8 0, .int .u8 0, .int .u8 0, .int .u8 0, .int .u8 0, .int .u8 0, .int .u8 0, .int .u8 0, .int .u8 0, .bool false, .int .u8 0, .int .u8 0, .int .u8 0, .int .u8 0, .int .u8 0, .int .u8 0, .int .u8 0, .int .u8 0, .int .u8 0, .int .u8 0, .int .u8 0, .int .u8 0, .int .u8 0, .int .u8 0, .int .u8 0, .int .u8 0] 56)
      have gNH := Nat.le_trans (Nat.le_of_eq rfl) E1.out.size
      generalize Y5x1.alloc (.cells #[Value.int .i64 0, .int .i64 0, .int .u8 0, .bool false, .int .u8 0, .int .u8 0, .int .u8 0, .int .u8 0, .int .u8 0, .int .u8 0, .int .u8 0, .int .u8 0, .int .u8 0, .int .u8 0, .int .u8 0, .int .u8 0, .int .u8 0, .int .u8 0, .int .u8 0, .int .u8 0, .bool false, .int .u8 0, .int .u8 0, .int .u8 0, .int .u8 0, .int .u8 0, .int .u8 0, .int .u8 0, .int .u8 0, .int .u8 0, .int .u8 0, .int .u8 0, .int .u8 0, .int .u8 0, .int .u8 0, .int .u8 0, .int .u8 0] 56) = Y5x2 at NH hy ⊢
      replace NH := Lib.hid NH
      have E2 := Lib.hid (E1.out.trans (hy.mono (Nat.le_trans hlow E1.out.size)))
      have C2 := Lib.hid E2.out
      clear hy E1
      refine hK.out _ _ C2.out (fun _ => ?_)
      clear hK K
      clear C2
      try simp only [Act.put, List.setIfInBounds_toArray, List.set_cons_zero, List.set_cons_succ]
      refine wpAnyH_ready (rs := [10]) (by kernel_rfl) (by simp) ?_
      refine AllReadyH.cons (o := { dst := none, op := Op.store 56 (Operand.tmp 8) (Operand.tmp 33), type := 0, pos := "frame.go:249", after := #[{ on := 9, ground := Ground.data }, { on := 8, ground := Ground.data }, { on := 1, ground := Ground.chain }, { on := 0, ground := Ground.phase }, { on := 1, ground := Ground.phase }, { on := 2, ground := Ground.phase }, { on := 3, ground := Ground.phase }, { on := 4, ground := Ground.phase }, { on := 5, ground := Ground.phase }, { on := 6, ground := Ground.phase }, { on := 7, ground := Ground.phase }, { on := 8, ground := Ground.phase }, { on := 9, ground := Ground.phase }], guard := none }) rfl (fun K hK => ?_) AllReadyH.nil
      rw [if_pos (by rfl)]
      refine wp_blk_store 56 (.tmp 8) (.tmp 33) rfl H rfl rfl NH.out YH.out ZH.out AH.out ?_
      intro Y5x3 hA hF hB
      have E3 := Lib.hid (E2.out.trans (hB _ gNH))
      replace NH := Lib.hid hA
      clear hA hF hB E2
      refine hK.out _ _ E3.out (fun _ => ?_)
      clear hK K
      try simp only [Act.put]
      refine wpAnyH_done (by kernel_rfl) ?_ _
      go_wp2
      go_meet
      exact ⟨_, rfl, NH.out, HH.out.below E3.out HH.out.lt, Nat.lt_of_lt_of_le HH.out.lt gNH, K.out.trans (E3.out.mono K.out.size)⟩
    refine AllReadyH.cons (o := { dst := some 8, op := Op.alloc 56, type := 0, pos := "frame.go:249", after := #[], guard := none }) rfl (fun K hK => ?_) AllReadyH.nil
    go_simp
    have NH := Blk.new Y5x0 56 #[Value.int .i64 0, .int .i64 0, .int .u8 0, .bool false, .int .u8 0, .int .u8 0, .int .u8 0, .int .u8 0, .int .u8 0, .int .u8 0, .int .u8 0, .int .u8 0, .int .u8 0, .int .u8 0, .int .u8 0, .int .u8 0, .int .u8 0, .int .u8 0, .int .u8 0, .int .u8 0, .bool false, .int .u8 0, .int .u8 0, .int .u8 0, .int .u8 0, .int .u8 0, .int .u8 0, .int .u8 0, .int .u8 0, .int .u8 0, .int .u8 0, .int .u8 0, .int .u8 0, .int .u8 0, .int .u8 0, .int .u8 0, .int .u8 0]
    have hy := (Below.refl Y5x0.heap.size Y5x0).alloc (Nat.le_refl _) (.cells #[Value.int .i64 0, .int .i64 0, .int .u8 0, .bool false, .int .u8 0, .int .u8 0, .int .u8 0, .int .u8 0, .int .u8 0, .int .u8 0, .int .u8 0, .int .u8 0, .int .u8 0, .int .u8 0, .int .u8 0, .int .u8 0, .int .u8 0, .int .u8 0, .int .u8 0, .int .u8 0, .bool false, .int .u8 0, .int .u8 0, .int .u8 0, .int .u8 0, .int .u8 0, .int .u8 0, .int .u8 0, .int .u8 0, .int .u8 0, .int .u8 0, .int .u8 0, .int .u8 0, .int .u8 0, .int .u8 0, .int .u8 0, .int .u8 0] 56)
    have gNH := Nat.le_trans (Nat.le_of_eq rfl) E0.out.size
    generalize Y5x0.alloc (.cells #[Value.int .i64 0, .int .i64 0, .int .u8 0, .bool false, .int .u8 0, .int .u8 0, .int .u8 0, .int .u8 0, .int .u8 0, .int .u8 0, .int .u8 0, .int .u8 0, .int .u8 0, .int .u8 0, .int .u8 0, .int .u8 0, .int .u8 0, .int .u8 0, .int .u8 0, .int .u8 0, .bool false, .int .u8 0, .int .u8 0, .int .u8 0, .int .u8 0, .int .u8 0, .int .u8 0, .int .u8 0, .int .u8 0, .int .u8 0, .int .u8 0, .int .u8 0, .int .u8 0, .int .u8 0, .int .u8 0, .int .u8 0, .int .u8 0] 56) = Y5x1 at NH hy ⊢
    replace NH := Lib.hid NH
    have E1 := Lib.hid (E0.out.trans (hy.mono (Nat.le_trans hlow E0.out.size)))
    have C1 := Lib.hid E1.out
    clear hy E0
    refine hK.out _ _ C1.out (fun _ => ?_)
    clear hK K
    clear C1
    try simp only [Act.put, List.setIfInBounds_toArray, List.set_cons_zero, List.set_cons_succ]
    refine wpAnyH_ready (rs := [1]) (by kernel_rfl) (by simp) ?_
    refine AllReadyH.cons (o := { dst := some 26, op := Op.call { callee := Callee.value (Operand.func 26), args := #[Operand.tmp 25, Operand.const (Value.int IntKind.i64 4)], argTypes := #[22, 3] }, type := 3, pos := "frame.go:249", after := #[{ on := 0, ground := Ground.data }], guard := none }) rfl (fun K hK => ?_) AllReadyH.nil
    go_simp
    refine (CB.out Y5x1 (HR.out.below E1.out)).mono ?_
    rintro e Y5x2 ⟨rfl, hy⟩
    replace NH := Lib.hid (NH.out.below hy NH.out.lt)
    have E2 := Lib.hid (E1.out.trans (hy.mono (Nat.le_trans hlow E1.out.size)))
    have C2 := Lib.hid E2.out
    clear hy E1
    refine hK.out _ _ C2.out (fun _ => ?_)
    clear hK K
    clear C2
    try simp only [Act.put, List.setIfInBounds_toArray, List.set_cons_zero, List.set_cons_succ]
    refine wpAnyH_take (i := 2) (oi := { dst := some 27, op := Op.binOp BinOp.add 3 (Operand.const (Value.int IntKind.i64 40)) (Operand.tmp 26) 3, type := 3, pos := "frame.go:249", after := #[{ on := 1, ground := Ground.data }], guard := none }) (v := ?_) rfl (by kernel_rfl) (by kernel_rfl) (by kernel_rfl) (fun _ _ _ h => h) (Or.inl ⟨by rfl, ?_⟩) E2.out ?_
    rotate_left
    · (intro w1 hS; have hW := hS; have q := HW.out; clear hW hS; go_simp; try with_reducible rfl)
    simp only [Act.put, List.setIfInBounds_toArray, List.set_cons_zero, List.set_cons_succ]
    refine wpAnyH_take (i := 8) (oi := { dst := some 33, op := Op.build 56 #[(0, Operand.const (Value.int IntKind.i64 40)), (1, Operand.tmp 27), (2, Operand.tmp 30), (3, Operand.tmp 31), (4, Operand.tmp 32)], type := 56, pos := "frame.go:249", after := #[{ on := 2, ground := Ground.data }, { on := 5, ground := Ground.data }, { on := 6, ground := Ground.data }, { on := 7, ground := Ground.data }], guard := none }) (v := .agg H) rfl (by kernel_rfl) (by kernel_rfl) (by kernel_rfl) (fun _ _ _ h => h) (Or.inl ⟨by rfl, ?_⟩) E2.out ?_
    · (intro w1 hS; exact exec_build 56 _ rfl #[(0, .int .i64 40), (1, .int .i64 ((40 + l : Nat) : Int)), (2, .int .u8 (p : Int)), (3, .agg S), (4, .agg D)] (by kernel_rfl) H HBD.out)
    simp only [Act.put, List.setIfInBounds_toArray, List.set_cons_zero, List.set_cons_succ]
    refine wpAnyH_ready (rs := [10]) (by kernel_rfl) (by simp) ?_
    refine AllReadyH.cons (o := { dst := none, op := Op.store 56 (Operand.tmp 8) (Operand.tmp 33), type := 0, pos := "frame.go:249", after := #[{ on := 9, ground := Ground.data }, { on := 8, ground := Ground.data }, { on := 1, ground := Ground.chain }, { on := 0, ground := Ground.phase }, { on := 1, ground := Ground.phase }, { on := 2, ground := Ground.phase }, { on := 3, ground := Ground.phase }, { on := 4, ground := Ground.phase }, { on := 5, ground := Ground.phase }, { on := 6, ground := Ground.phase }, { on := 7, ground := Ground.phase }, { on := 8, ground := Ground.phase }, { on := 9, ground := Ground.phase }], guard := none }) rfl (fun K hK => ?_) AllReadyH.nil
    rw [if_pos (by rfl)]
    refine wp_blk_store 56 (.tmp 8) (.tmp 33) rfl H rfl rfl NH.out YH.out ZH.out AH.out ?_
    intro Y5x3 hA hF hB
    have E3 := Lib.hid (E2.out.trans (hB _ gNH))
    replace NH := Lib.hid hA
    clear hA hF hB E2
    refine hK.out _ _ E3.out (fun _ => ?_)
    clear hK K
    try simp only [Act.put]
    refine wpAnyH_done (by kernel_rfl) ?_ _
    go_wp2
    go_meet
    exact ⟨_, rfl, NH.out, HH.out.below E3.out HH.out.lt, Nat.lt_of_lt_of_le HH.out.lt gNH, K.out.trans (E3.out.mono K.out.size)⟩
  case rest =>
    obtain ⟨g, rfl, hG, hN, hgl, hK⟩ := hcut
    have G := Lib.hid hG
    have e1 := (hG.cell 1).trans HG.out.2.1
    have e2 := (hG.cell 2).trans HG.out.2.2
    have c0 := (hK.cell (p := ⟨b, off, none⟩) hb0).trans c0.out
    clear HH
    have HH := Lib.hid hN
    clear K
    have K := Lib.hid hK
    clear hG hN hK HR HS HD C1 C2 CB NS ND HBD HG
    have h0n : 0 < n := by omega
    by_cases h6 : x / 16 = 6
    case neg =>
      have hf : F = 3 := by rw [HF.out, if_pos h6]
      have g4 : ((x : Int) / 16 != 6) = true := by rw [bne_iff_ne]; omega
      clear h6
      have hh : HV = r0 := by rw [HH0.out, if_neg (by omega)]
      subst hf hh
      go_wp2_with (((with_reducible refine wpList_blk_store (op := ⟨none, .store 56 (.tmp 2) (.tmp 40), _, _, _, _⟩) ?sg4 56 (.tmp 2) (.tmp 40) ?so4 (w.heap.size) r0 ?sx4 ?sy4 HH.out YR.out ZR.out AR.out ?_); (case sg4 => rfl); (case so4 => rfl); (case sx4 => rfl); (case sy4 => rfl)))
      intro V91 hA hF hB
      replace K := Lib.hid (K.out.trans (hB _ (by omega)))
      replace HH := Lib.hid hA
      clear hA hF hB
      go_wp2
      have hrun := run_blk_load (P := Try.prog) 56 w.heap.size _ HH.out Try.underlying56 rfl ZR.out
      exact bodyPost_ret (results_cell_tmp 2 56 3 w.heap.size _ Try.results24 rfl hrun) rfl ⟨rfl, K.out⟩
    have g4 : ((x : Int) / 16 != 6) = false := by rw [bne_eq_false_iff_eq]; omega
    rw [if_neg (by omega)] at HF
    clear h6
    by_cases hnl : n < 40 + l
    · have hf : F = 1 := by rw [HF.out, if_pos hnl]
      have gl : decide ((n : Int) < 40 + (l : Int)) = true := decide_eq_true (by omega)
      have hh : HV = r0 := by rw [HH0.out, if_neg (by omega)]
      subst hf hh
      go_wp2_with (((with_reducible refine wpList_blk_store (op := ⟨none, .store 56 (.tmp 2) (.tmp 47), _, _, _, _⟩) ?sg5 56 (.tmp 2) (.tmp 47) ?so5 (w.heap.size) r0 ?sx5 ?sy5 HH.out YR.out ZR.out AR.out ?_); (case sg5 => rfl); (case so5 => rfl); (case sx5 => rfl); (case sy5 => rfl)))
      intro V91 hA hF hB
      replace K := Lib.hid (K.out.trans (hB _ (by omega)))
      replace HH := Lib.hid hA
      clear hA hF hB
      go_wp2
      have hrun := run_blk_load (P := Try.prog) 56 w.heap.size _ HH.out Try.underlying56 rfl ZR.out
      exact bodyPost_ret (results_cell_tmp 2 56 3 w.heap.size _ Try.results24 rfl hrun) rfl ⟨rfl, K.out⟩
    have gl : decide ((n : Int) < 40 + (l : Int)) = false := decide_eq_false (by omega)
    rw [if_neg hnl] at HF
    by_cases hp44 : p = 44
    · have hf : F = 5 := by rw [HF.out, if_pos hp44]
      have hh : HV = r0 := by rw [HH0.out, if_neg (by omega)]
      subst hf hp44 hh
      go_wp2_with (((with_reducible refine wpList_blk_store (op := ⟨none, .store 56 (.tmp 2) (.tmp 52), _, _, _, _⟩) ?sg6 56 (.tmp 2) (.tmp 52) ?so6 (w.heap.size) r0 ?sx6 ?sy6 HH.out YR.out ZR.out AR.out ?_); (case sg6 => rfl); (case so6 => rfl); (case sx6 => rfl); (case sy6 => rfl)))
      intro V91 hA hF hB
      replace K := Lib.hid (K.out.trans (hB _ (by omega)))
      replace HH := Lib.hid hA
      clear hA hF hB
      go_wp2
      have hrun := run_blk_load (P := Try.prog) 56 w.heap.size _ HH.out Try.underlying56 rfl ZR.out
      exact bodyPost_ret (results_cell_tmp 2 56 3 w.heap.size _ Try.results24 rfl hrun) rfl ⟨rfl, K.out⟩
    rw [if_neg hp44] at HF
    have g44 : ((p : Int) == 44) = false := by rw [beq_eq_false_iff_ne]; omega
    by_cases hpp : p = 6 ∨ p = 17
    case neg =>
      have hf : F = 6 := by rw [HF.out, if_pos (by omega)]
      have hh : HV = r0 := by rw [HH0.out, if_neg (by omega)]
      have g6 : ((p : Int) != 6) = true := by rw [bne_iff_ne]; omega
      have g17 : ((p : Int) != 17) = true := by rw [bne_iff_ne]; omega
      clear hpp hp44
      subst hf hh
      go_wp2_with (((with_reducible refine wpList_blk_store (op := ⟨none, .store 56 (.tmp 2) (.tmp 62), _, _, _, _⟩) ?sg7 56 (.tmp 2) (.tmp 62) ?so7 (w.heap.size) r0 ?sx7 ?sy7 HH.out YR.out ZR.out AR.out ?_); (case sg7 => rfl); (case so7 => rfl); (case sx7 => rfl); (case sy7 => rfl)))
      intro V91 hA hF hB
      replace K := Lib.hid (K.out.trans (hB _ (by omega)))
      replace HH := Lib.hid hA
      clear hA hF hB
      go_wp2
      have hrun := run_blk_load (P := Try.prog) 56 w.heap.size _ HH.out Try.underlying56 rfl ZR.out
      exact bodyPost_ret (results_cell_tmp 2 56 3 w.heap.size _ Try.results24 rfl hrun) rfl ⟨rfl, K.out⟩
    have hf : F = 0 := by rw [HF.out, if_neg (by omega)]
    have hh : HV = H := by rw [HH0.out, if_pos hf]
    clear hp44
    subst hf hh
    rcases hpp with rfl | rfl
    all_goals
      have L8 : (loadVar 56 ⟨g, 0, none⟩).run Try.prog wc = .ok (.agg HV) wc := run_blk_load (P := Try.prog) 56 (g) _ G.out Try.underlying56 rfl ZH.out
      replace L8 := Lib.hid L8
      go_wp2_with (first | ((with_reducible refine wpList_load_want (op := ⟨some 63, .load 56 (.tmp 8), _, _, _, _⟩) ?wg8 56 (.tmp 8) ?wo8 ⟨g, 0, none⟩ ?wx8 (.agg HV) L8.out ?_); (case wg8 => rfl); (case wo8 => rfl); (case wx8 => rfl)) | ((with_reducible refine wpList_blk_store (op := ⟨none, .store 56 (.tmp 2) (.tmp 63), _, _, _, _⟩) ?sg9 56 (.tmp 2) (.tmp 63) ?so9 (w.heap.size) HV ?sx9 ?sy9 HH.out YH.out ZH.out AH.out ?_); (case sg9 => rfl); (case so9 => rfl); (case sx9 => rfl); (case sy9 => rfl)))
      clear L8
      intro V91 hA hF hB
      replace K := Lib.hid (K.out.trans (hB _ (by omega)))
      replace G := Lib.hid ((hF _ (by omega)).trans G.out)
      replace HH := Lib.hid hA
      clear hA hF hB
      go_wp2
      have hrun := run_blk_load (P := Try.prog) 56 w.heap.size _ HH.out Try.underlying56 rfl ZH.out
      exact bodyPost_ret (results_cell_tmp 2 56 3 w.heap.size _ Try.results24 rfl hrun) rfl ⟨rfl, K.out⟩
theorem rsix_any (v : Value) (zs : List Nat) (w : World) (hr : Rd w v (nus .u8 zs)) (hb : ∀ c ∈ zs, c < 256) :
    Calls Try.prog 24 #[v] w fun e w' => e = .returned (.tuple #[.agg (rd6 zs), .int .i64 (f6 zs : Nat)]) ∧ Below w.heap.size w w' := by
  by_cases h : zs.length < 40
  · have h1 : f6 zs = 1 := by unfold f6; rw [if_pos h]
    have e : rd6 zs = r0 := by unfold rd6; rw [if_neg (by omega)]
    rw [e, h1]
    exact rsix_short v zs w hr h
  · exact rsix_long v zs w hr hb h
end Go.Proofs.Ytopfbgoiehlhbaa

/- A store into a part of a block that is known whole. Nothing of the program. -/
namespace Go.Proofs.Ytopfbgoiehlhbaa
open Go.RowKit
theorem Blk.thereAt {w : World} {g : Nat} {t : TypeId} {cs : Array Value} (h : Blk w g t cs) {o n : Nat} (hn : o + n ≤ cs.size) : w.there g o n := fun j hj => by
  rw [h.cell (o + j), h.frozen (o + j)]
  simp
  omega
theorem wpList_part_store {P : Program} {w : World} {g : Nat} {t : TypeId} {cs : Array Value} {ops : Array Oper} {rest : List Oper} {op : Oper} {a : Act} {Q : Exit → Act → World → Prop} (hgd : op.guard = none) (ty : TypeId) (x y : Operand) (ho : op.op = .store ty x y)
    (off : Nat) (vs : Array Value) (hx : a.eval x = .pointer (some ⟨g, off, none⟩)) (hy : a.eval y = .agg vs) (hc : Blk w g t cs) (hs : off + vs.size ≤ cs.size)
    (hi : (P.info? ty).map (·.size) = some vs.size) (h1 : vs.all (·.oneCell') = true)
    (h : ∀ w', Blk w' g t (setL cs off vs.toList) → (∀ k, k ≠ g → w'.heap[k]? = w.heap[k]?) → (∀ B, B ≤ g → Below B w w') → wpList P ops Q rest (a.put op.dst undef) w') : wpList P ops Q (op :: rest) a w :=
  wpList_store_mid hgd ty x y ho g off vs hx hy (hc.thereAt hs) hi h1
    (h _ (Blk.setCells vs.toList off w cs hc) (fun k hk => setCells_far k hk _ _ _) (fun _ hB => setCells_below hB _ _ _ (Below.refl _ _)))
end Go.Proofs.Ytopfbgoiehlhbaa

