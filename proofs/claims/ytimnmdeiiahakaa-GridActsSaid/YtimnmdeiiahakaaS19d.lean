/- grid's Set of a place that there is, of each kind. -/
import Derived.Test.YtimnmdeiiahakaaS19c
import Derived.Test.YtimnmdeiiahakaaLt
import Derived.Test.YtimnmdeiiahakaaSt
import Derived.Deep.CutBlock
import Derived.Deep.DeepCutAuto
import Derived.LoopTactic
import Derived.Handy
namespace Go.Proofs.Ytimnmdeiiahakaa
open Go.RowKit Go.Lib

theorem grown_of_below {A B : World} (h : Below A.heap.size A B) : A.grownBy B none := ⟨h.os, h.tape, h.output, h.size, fun k hk _ => h.block k hk⟩
theorem wpList_built2 {P : Program} {ops : Array Oper} {rest : List Oper} {op : Oper} {a : Act} {w : World} {Q : Exit → Act → World → Prop} (hw : Region.wanted op (yielded ops a.tmps) = true) (t : TypeId) (parts : Array (Nat × Operand)) (ho : op.op = .build t parts)
    (vals : Array (Nat × Value)) (hv : (parts.map fun (i, x) => (i, a.eval x)) = vals) (cells : Array Value) (hf : P.built t vals.toList = some cells) (h : wpList P ops Q rest (a.put op.dst (.agg cells)) w) : wpList P ops Q (op :: rest) a w :=
  BigFrame.wpList_want hw fun K hK => by
    unfold Oper.wp
    simp only [exec_build t parts ho vals hv cells hf]
    exact hK _ _ h
theorem gb_cell (W : World) (b i : Nat) (v : Value) : W.grownBy (W.setCell ⟨b, i, none⟩ v) (some b) :=
  ⟨rfl, rfl, rfl, by show _ ≤ (W.heap.modify _ _).size; rw [Array.size_modify]; exact Nat.le_refl _, fun k _ hk => Below.heap_setCell _ _ _ k (fun e => hk (by rw [e]))⟩
theorem builtI (v : Int) : Try.prog.built 72 [(0, .bool true), (1, .int .i64 v)] = some (encI (some v)).toArray := by kernel_rfl
theorem builtA (v : Int × Int) : Try.prog.built 83 [(0, .bool true), (1, .agg #[.int .i64 v.1, .int .i64 v.2])] = some (encA (some v)).toArray := by kernel_rfl
theorem builtS (v : ByteArray) : Try.prog.built 91 [(0, .bool true), (1, .string v)] = some (encS (some v)).toArray := by kernel_rfl
theorem builtI0 : Try.prog.built 72 [] = some (encI none).toArray := by kernel_rfl
theorem builtA0 : Try.prog.built 83 [] = some (encA none).toArray := by kernel_rfl
theorem builtS0 : Try.prog.built 91 [] = some (encS none).toArray := by kernel_rfl
/-- All blocks but one are as they were. -/
def SameBut (g : Nat) (A B : World) : Prop := ∀ k, k ≠ g → B.heap[k]? = A.heap[k]?
theorem gb_of {A B : World} (h : Below A.heap.size A B) (g : Nat) : A.grownBy B (some g) := (grown_of_below h).but _
set_option maxRecDepth 100000 in
set_option maxHeartbeats 4000000 in
theorem setI_in (B st sz : Nat) (c : Nat → Option Int) (s i : Nat) (hs : s < st) (hi : i < sz) (v : Int) (w : World) (h : GdI B st sz c w) :
    Calls Try.prog 10 #[.pointer (some ⟨B + 1, 0, none⟩), .agg (plA s i), .int .i64 v] w fun e w' => e = .returned (.bool true) ∧ GdI B st sz (putC c (s * sz + i) (some v)) w' ∧ Apart B (2 + st) w w' := by
  have K := Lib.hid (Below.refl w.heap.size w)
  have HG := Lib.hid h
  have CC := Lib.hid (fun W h => cellI_yes B st sz c s i hs hi W h)
  have qm : i * 2 < sz * 2 := by omega
  have hst := h.s2
  have hsz := h.z2
  have hlt := h.lt
  clear h
  have PI := Lib.hid (plA_i (s : Int) (i : Int))
  generalize plA (s : Int) (i : Int) = pc at *
  have hq := eqcI_some ⟨B + 2 + s, i * 2, none⟩
  go_enter Try.func10, Try.ntmps10
  have hal := (Below.refl w.heap.size w).alloc (Nat.le_refl _) (.cells pc 30)
  replace K := Lib.hid (K.out.trans (hal.mono K.out.size))
  replace HG := Lib.hid (HG.out.below hal)
  have P := Lib.hid (Blk.new w 30 pc)
  clear hal
  have L8 : (loadVar 30 ⟨w.heap.size, 0, none⟩).run Try.prog (w.alloc (.cells pc 30)) = .ok (.agg pc) (w.alloc (.cells pc 30)) := run_blk_load (P := Try.prog) 30 (w.heap.size) _ P.out Try.underlying30 rfl PI.out
  replace L8 := Lib.hid L8
  go_wp2_with (((with_reducible refine wpList_load_want (op := ⟨some 9, .load 30 (.tmp 4), _, _, _, _⟩) ?wg8 30 (.tmp 4) ?wo8 ⟨w.heap.size, 0, none⟩ ?wx8 (.agg pc) L8.out ?_); (case wg8 => rfl); (case wo8 => rfl); (case wx8 => rfl)))
  clear L8
  have hzV1 : Hid ((w.alloc (.cells pc 30)).heap.size = w.heap.size + 1) := by show _ = _; simp only [World.size_alloc]
  generalize (w.alloc (.cells pc 30)) = V1 at *
  refine (CC.out V1 HG.out).mono ?_
  rintro e V2 ⟨rfl, hy⟩
  replace K := Lib.hid (K.out.trans (hy.mono K.out.size))
  replace HG := Lib.hid (HG.out.below hy)
  replace P := Lib.hid (P.out.below hy P.out.lt)
  clear hy
  have G := Lib.hid HG.out.G
  have C := Lib.hid (HG.out.C s hs)
  obtain ⟨k, hk⟩ : ∃ k, k = s * sz + i := ⟨_, rfl⟩
  have HNK := Lib.hid (show k < st * sz from hk ▸ num_lt hs hi)
  have HSZ := Lib.hid (sz_le hst hsz)
  have HLN := Lib.hid (itF_len c 0 (st * sz))
  have c0 : V2.cell? ⟨B + 2 + s, i * 2, none⟩ = (encI (c (s * sz + i)))[0]? := HG.out.cellAt 2 encI_len s i 0 hs hi (by omega)
  have d1 := HG.out.cellAt 2 encI_len s i 1 hs hi (by omega)
  rw [← hk] at c0 d1
  cases hc : c k with
  | none =>
    replace c0 : V2.cell? ⟨B + 2 + s, i * 2, none⟩ = some (.bool false) := c0.trans (by rw [hc]; rfl)
    have HNN := Lib.hid (len_set c (st * sz) k HNK.out v hc)
    obtain ⟨nn, hnn⟩ : ∃ nn, nn = (itF (putC c k (some v)) 0 (st * sz)).length := ⟨_, rfl⟩
    have HN2 := Lib.hid hnn
    rw [← hnn] at HNN
    obtain ⟨g0, g1⟩ := grC_get B st (itF c 0 (st * sz)).length
    have G1 := Lib.hid g1
    have GS1 := Lib.hid (grC_set B st (itF c 0 (st * sz)).length nn)
    have RP := Lib.hid (rowC_put encI 2 encI_len (by decide) c (s * sz) sz i hi (some v))
    have RL := Lib.hid (show i * 2 + (encI (some v)).toArray.size ≤ (rowC encI c (s * sz) sz).toArray.size by rw [List.size_toArray, List.size_toArray, rowC_len encI 2 encI_len, encI_len]; omega)
    have hn0 := HLN.out
    have hn1 := HSZ.out
    have hn2 := HNN.out
    have HKK := Lib.hid hk
    clear g0 g1 hnn hk hc
    generalize (itF c 0 (st * sz)).length = n at *
    have w1 : IntKind.i64.wrap ((n : Int) + 1) = (nn : Int) := by rw [IntKind.wrap_i64]; omega
    clear hn0 hn1 hn2
    have k1 := (G.out.cell 1).trans G1.out
    have k2 := G.out.frozen 1
    have C2 := Lib.hid (C.out.far (p := ⟨B + 1, 1, none⟩) (by show B + 2 + s ≠ B + 1; omega) (.int .i64 (nn : Int)))
    have G2 := Lib.hid (G.out.set_ 1 (.int .i64 (nn : Int)))
    rw [GS1.out] at G2
    have HF1 : Hid (SameBut (B + 1) V2 (V2.setCell ⟨B + 1, 1, none⟩ (.int .i64 (nn : Int)))) := fun k hk => Below.heap_setCell _ _ _ k hk
    have HB1 : Hid (V2.grownBy (V2.setCell ⟨B + 1, 1, none⟩ (.int .i64 (nn : Int))) (some (B + 1))) := gb_cell _ _ _ _
    clear G C
    have CA := Lib.hid (show (encI (some v)).toArray.all (·.oneCell') = true from by simp [encI]; first | done | exact ⟨rfl, rfl⟩ | exact ⟨rfl, rfl, rfl⟩)
    have HBU := Lib.hid (builtI v)
    obtain ⟨xc, hxc⟩ : ∃ x, x = (encI (some v)).toArray := ⟨_, rfl⟩
    rw [← hxc] at HBU RL CA
    have HXC := Lib.hid hxc
    have XZ : Hid ((Try.prog.info? 72).map (·.size) = some xc.size) := by rw [hxc]; exact i72
    clear hxc
    go_wp2_with (first | ((with_reducible refine wpList_built2 (op := ⟨some 27, .build 72 #[(0, Operand.const (Value.bool true)), (1, Operand.tmp 26)], _, _, _, _⟩) ?wg1 72 #[(0, Operand.const (Value.bool true)), (1, Operand.tmp 26)] ?wo1 #[(0, .bool true), (1, .int .i64 v)] ?wv1 xc ?wf1 ?_); (case wg1 => rfl); (case wo1 => rfl); (case wv1 => kernel_rfl); (case wf1 => exact HBU.out)) | ((with_reducible refine wpList_part_store (op := ⟨none, .store 72 (.tmp 28) (.tmp 27), _, _, _, _⟩) ?pg1 72 (.tmp 28) (.tmp 27) ?po1 (i * 2) xc ?px1 ?py1 C2.out RL.out XZ.out CA.out ?_); (case pg1 => rfl); (case po1 => rfl); (case px1 => rfl); (case py1 => rfl)))
    intro Vz hA hF hB
    rw [HXC.out, List.toList_toArray, RP.out, ← HKK.out] at hA
    have HA := Lib.hid hA
    have HF2 : Hid (∀ j, j < V2.heap.size → j ≠ B + 1 → j ≠ B + 2 + s → Vz.heap[j]? = V2.heap[j]?) := fun j h0 h1 h2 => (hF j h2).trans (HF1.out j h1)
    have HB2 := Lib.hid (hB 0 (Nat.zero_le _))
    have hbs := (hB 0 (Nat.zero_le _))
    have hG2 : Blk Vz (B + 1) 67 (grC B st nn) := (hF _ (by omega)).trans G2.out
    have HP := Lib.hid (HG.out.put s i hi (some v) nn (by rw [← HKK.out]; exact HN2.out.symm) hG2 (by rw [← HKK.out]; exact HA.out) HF2.out)
    have HAP : Hid (Apart B (2 + st) w Vz) := (Apart.of_below K.out).trans ((Apart.of_grown HB1.out (by omega) (by omega)).trans ⟨hbs.os, hbs.tape, hbs.output, hbs.size, fun j h1 h2 => hF j (by omega)⟩)
    clear hA hF hB hG2 HA HF2 HB2 hbs C2 G2 HF1 HB1
    go_wp2
    go_ret
    exact ⟨rfl, HP.out, HAP.out⟩
  | some u =>
    replace c0 : V2.cell? ⟨B + 2 + s, i * 2, none⟩ = some (.bool true) := c0.trans (by rw [hc]; rfl)
    have HNN := Lib.hid (len_again c (st * sz) k HNK.out u v hc)
    obtain ⟨nn, hnn⟩ : ∃ nn, nn = (itF (putC c k (some v)) 0 (st * sz)).length := ⟨_, rfl⟩
    have HN2 := Lib.hid hnn
    rw [← hnn] at HNN
    obtain ⟨g0, g1⟩ := grC_get B st (itF c 0 (st * sz)).length
    have G1 := Lib.hid g1
    have GS1 := Lib.hid (grC_set B st (itF c 0 (st * sz)).length nn)
    have RP := Lib.hid (rowC_put encI 2 encI_len (by decide) c (s * sz) sz i hi (some v))
    have RL := Lib.hid (show i * 2 + (encI (some v)).toArray.size ≤ (rowC encI c (s * sz) sz).toArray.size by rw [List.size_toArray, List.size_toArray, rowC_len encI 2 encI_len, encI_len]; omega)
    have hn0 := HLN.out
    have hn1 := HSZ.out
    have hn2 := HNN.out
    have HKK := Lib.hid hk
    clear g0 g1 hnn hk hc
    generalize (itF c 0 (st * sz)).length = n at *
    clear hn0 hn1 hn2
    have C2 := C
    have G2 : Hid (Blk V2 (B + 1) 67 (grC B st nn)) := by show Blk _ _ _ _; rw [HNN.out]; exact G.out
    have HF1 : Hid (SameBut (B + 1) V2 V2) := fun k hk => rfl
    have HB1 : Hid (V2.grownBy V2 (some (B + 1))) := gb_of (Below.refl _ _) _
    clear G C
    have CA := Lib.hid (show (encI (some v)).toArray.all (·.oneCell') = true from by simp [encI]; first | done | exact ⟨rfl, rfl⟩ | exact ⟨rfl, rfl, rfl⟩)
    have HBU := Lib.hid (builtI v)
    obtain ⟨xc, hxc⟩ : ∃ x, x = (encI (some v)).toArray := ⟨_, rfl⟩
    rw [← hxc] at HBU RL CA
    have HXC := Lib.hid hxc
    have XZ : Hid ((Try.prog.info? 72).map (·.size) = some xc.size) := by rw [hxc]; exact i72
    clear hxc
    go_wp2_with (first | ((with_reducible refine wpList_built2 (op := ⟨some 27, .build 72 #[(0, Operand.const (Value.bool true)), (1, Operand.tmp 26)], _, _, _, _⟩) ?wg1 72 #[(0, Operand.const (Value.bool true)), (1, Operand.tmp 26)] ?wo1 #[(0, .bool true), (1, .int .i64 v)] ?wv1 xc ?wf1 ?_); (case wg1 => rfl); (case wo1 => rfl); (case wv1 => kernel_rfl); (case wf1 => exact HBU.out)) | ((with_reducible refine wpList_part_store (op := ⟨none, .store 72 (.tmp 28) (.tmp 27), _, _, _, _⟩) ?pg1 72 (.tmp 28) (.tmp 27) ?po1 (i * 2) xc ?px1 ?py1 C2.out RL.out XZ.out CA.out ?_); (case pg1 => rfl); (case po1 => rfl); (case px1 => rfl); (case py1 => rfl)))
    intro Vz hA hF hB
    rw [HXC.out, List.toList_toArray, RP.out, ← HKK.out] at hA
    have HA := Lib.hid hA
    have HF2 : Hid (∀ j, j < V2.heap.size → j ≠ B + 1 → j ≠ B + 2 + s → Vz.heap[j]? = V2.heap[j]?) := fun j h0 h1 h2 => (hF j h2).trans (HF1.out j h1)
    have HB2 := Lib.hid (hB 0 (Nat.zero_le _))
    have hbs := (hB 0 (Nat.zero_le _))
    have hG2 : Blk Vz (B + 1) 67 (grC B st nn) := (hF _ (by omega)).trans G2.out
    have HP := Lib.hid (HG.out.put s i hi (some v) nn (by rw [← HKK.out]; exact HN2.out.symm) hG2 (by rw [← HKK.out]; exact HA.out) HF2.out)
    have HAP : Hid (Apart B (2 + st) w Vz) := (Apart.of_below K.out).trans ((Apart.of_grown HB1.out (by omega) (by omega)).trans ⟨hbs.os, hbs.tape, hbs.output, hbs.size, fun j h1 h2 => hF j (by omega)⟩)
    clear hA hF hB hG2 HA HF2 HB2 hbs C2 G2 HF1 HB1
    go_wp2
    go_ret
    exact ⟨rfl, HP.out, HAP.out⟩
set_option maxRecDepth 100000 in
set_option maxHeartbeats 4000000 in
theorem setA_in (B st sz : Nat) (c : Nat → Option (Int × Int)) (s i : Nat) (hs : s < st) (hi : i < sz) (v : (Int × Int)) (w : World) (h : GdA B st sz c w) :
    Calls Try.prog 17 #[.pointer (some ⟨B + 1, 0, none⟩), .agg (plA s i), .agg #[.int .i64 v.1, .int .i64 v.2]] w fun e w' => e = .returned (.bool true) ∧ GdA B st sz (putC c (s * sz + i) (some v)) w' ∧ Apart B (2 + st) w w' := by
  have K := Lib.hid (Below.refl w.heap.size w)
  have HG := Lib.hid h
  have CC := Lib.hid (fun W h => cellA_yes B st sz c s i hs hi W h)
  have qm : i * 3 < sz * 3 := by omega
  have hst := h.s2
  have hsz := h.z2
  have hlt := h.lt
  clear h
  have PI := Lib.hid (plA_i (s : Int) (i : Int))
  generalize plA (s : Int) (i : Int) = pc at *
  have hq := eqcA_some ⟨B + 2 + s, i * 3, none⟩
  go_enter Try.func17, Try.ntmps17
  have hal := (Below.refl w.heap.size w).alloc (Nat.le_refl _) (.cells pc 30)
  replace K := Lib.hid (K.out.trans (hal.mono K.out.size))
  replace HG := Lib.hid (HG.out.below hal)
  have P := Lib.hid (Blk.new w 30 pc)
  clear hal
  have XI : Hid ((Try.prog.info? 46).map (·.size) = some (#[Value.int .i64 v.1, .int .i64 v.2] : Array Value).size) := i46
  have hal := (Below.refl (w.alloc (.cells pc 30)).heap.size (w.alloc (.cells pc 30))).alloc (Nat.le_refl _) (.cells #[Value.int .i64 v.1, .int .i64 v.2] 46)
  replace K := Lib.hid (K.out.trans (hal.mono K.out.size))
  replace HG := Lib.hid (HG.out.below hal)
  replace P := Lib.hid (P.out.below hal P.out.lt)
  have Xq := Blk.new (w.alloc (.cells pc 30)) 46 #[Value.int .i64 v.1, .int .i64 v.2]
  simp only [World.size_alloc] at Xq
  have X := Lib.hid Xq
  clear Xq
  clear hal
  have L9 : (loadVar 30 ⟨w.heap.size, 0, none⟩).run Try.prog ((w.alloc (.cells pc 30)).alloc (.cells #[Value.int .i64 v.1, .int .i64 v.2] 46)) = .ok (.agg pc) ((w.alloc (.cells pc 30)).alloc (.cells #[Value.int .i64 v.1, .int .i64 v.2] 46)) := run_blk_load (P := Try.prog) 30 (w.heap.size) _ P.out Try.underlying30 rfl PI.out
  replace L9 := Lib.hid L9
  go_wp2_with (((with_reducible refine wpList_load_want (op := ⟨some 9, .load 30 (.tmp 4), _, _, _, _⟩) ?wg9 30 (.tmp 4) ?wo9 ⟨w.heap.size, 0, none⟩ ?wx9 (.agg pc) L9.out ?_); (case wg9 => rfl); (case wo9 => rfl); (case wx9 => rfl)))
  clear L9
  have hzV1 : Hid (((w.alloc (.cells pc 30)).alloc (.cells #[Value.int .i64 v.1, .int .i64 v.2] 46)).heap.size = w.heap.size + 1 + 1) := by show _ = _; simp only [World.size_alloc]
  generalize ((w.alloc (.cells pc 30)).alloc (.cells #[Value.int .i64 v.1, .int .i64 v.2] 46)) = V1 at *
  refine (CC.out V1 HG.out).mono ?_
  rintro e V2 ⟨rfl, hy⟩
  replace K := Lib.hid (K.out.trans (hy.mono K.out.size))
  replace HG := Lib.hid (HG.out.below hy)
  replace P := Lib.hid (P.out.below hy P.out.lt)
  replace X := Lib.hid (X.out.below hy X.out.lt)
  clear hy
  have G := Lib.hid HG.out.G
  have C := Lib.hid (HG.out.C s hs)
  obtain ⟨k, hk⟩ : ∃ k, k = s * sz + i := ⟨_, rfl⟩
  have HNK := Lib.hid (show k < st * sz from hk ▸ num_lt hs hi)
  have HSZ := Lib.hid (sz_le hst hsz)
  have HLN := Lib.hid (itF_len c 0 (st * sz))
  have c0 : V2.cell? ⟨B + 2 + s, i * 3, none⟩ = (encA (c (s * sz + i)))[0]? := HG.out.cellAt 3 encA_len s i 0 hs hi (by omega)
  have d1 := HG.out.cellAt 3 encA_len s i 1 hs hi (by omega)
  have d2 := HG.out.cellAt 3 encA_len s i 2 hs hi (by omega)
  rw [← hk] at c0 d1 d2
  cases hc : c k with
  | none =>
    replace c0 : V2.cell? ⟨B + 2 + s, i * 3, none⟩ = some (.bool false) := c0.trans (by rw [hc]; rfl)
    have HNN := Lib.hid (len_set c (st * sz) k HNK.out v hc)
    obtain ⟨nn, hnn⟩ : ∃ nn, nn = (itF (putC c k (some v)) 0 (st * sz)).length := ⟨_, rfl⟩
    have HN2 := Lib.hid hnn
    rw [← hnn] at HNN
    obtain ⟨g0, g1⟩ := grC_get B st (itF c 0 (st * sz)).length
    have G1 := Lib.hid g1
    have GS1 := Lib.hid (grC_set B st (itF c 0 (st * sz)).length nn)
    have RP := Lib.hid (rowC_put encA 3 encA_len (by decide) c (s * sz) sz i hi (some v))
    have RL := Lib.hid (show i * 3 + (encA (some v)).toArray.size ≤ (rowC encA c (s * sz) sz).toArray.size by rw [List.size_toArray, List.size_toArray, rowC_len encA 3 encA_len, encA_len]; omega)
    have hn0 := HLN.out
    have hn1 := HSZ.out
    have hn2 := HNN.out
    have HKK := Lib.hid hk
    clear g0 g1 hnn hk hc
    generalize (itF c 0 (st * sz)).length = n at *
    have w1 : IntKind.i64.wrap ((n : Int) + 1) = (nn : Int) := by rw [IntKind.wrap_i64]; omega
    clear hn0 hn1 hn2
    have k1 := (G.out.cell 1).trans G1.out
    have k2 := G.out.frozen 1
    have C2 := Lib.hid (C.out.far (p := ⟨B + 1, 1, none⟩) (by show B + 2 + s ≠ B + 1; omega) (.int .i64 (nn : Int)))
    have G2 := Lib.hid (G.out.set_ 1 (.int .i64 (nn : Int)))
    rw [GS1.out] at G2
    have HF1 : Hid (SameBut (B + 1) V2 (V2.setCell ⟨B + 1, 1, none⟩ (.int .i64 (nn : Int)))) := fun k hk => Below.heap_setCell _ _ _ k hk
    have HB1 : Hid (V2.grownBy (V2.setCell ⟨B + 1, 1, none⟩ (.int .i64 (nn : Int))) (some (B + 1))) := gb_cell _ _ _ _
    clear G C
    have CA := Lib.hid (show (encA (some v)).toArray.all (·.oneCell') = true from by simp [encA]; first | done | exact ⟨rfl, rfl⟩ | exact ⟨rfl, rfl, rfl⟩)
    have HBU := Lib.hid (builtA v)
    obtain ⟨xc, hxc⟩ : ∃ x, x = (encA (some v)).toArray := ⟨_, rfl⟩
    rw [← hxc] at HBU RL CA
    have HXC := Lib.hid hxc
    have XZ : Hid ((Try.prog.info? 83).map (·.size) = some xc.size) := by rw [hxc]; exact i83
    clear hxc
    have LX := Lib.hid (run_blk_load (P := Try.prog) (w := (V2.setCell ⟨B + 1, 1, none⟩ (.int .i64 (nn : Int)))) 46 (w.heap.size + 1) _ (X.out.far (p := ⟨B + 1, 1, none⟩) (by show w.heap.size + 1 ≠ B + 1; omega) _) Try.underlying46 rfl i46)
    go_wp2_with (first | ((with_reducible refine wpList_load_want (op := ⟨some 26, .load 46 (.tmp 5), _, _, _, _⟩) ?lg1 46 (.tmp 5) ?lo1 ⟨w.heap.size + 1, 0, none⟩ ?lx1 (.agg #[.int .i64 v.1, .int .i64 v.2]) LX.out ?_); (case lg1 => rfl); (case lo1 => rfl); (case lx1 => rfl)) | ((with_reducible refine wpList_built2 (op := ⟨some 27, .build 83 #[(0, Operand.const (Value.bool true)), (1, Operand.tmp 26)], _, _, _, _⟩) ?wg1 83 #[(0, Operand.const (Value.bool true)), (1, Operand.tmp 26)] ?wo1 #[(0, .bool true), (1, .agg #[.int .i64 v.1, .int .i64 v.2])] ?wv1 xc ?wf1 ?_); (case wg1 => rfl); (case wo1 => rfl); (case wv1 => kernel_rfl); (case wf1 => exact HBU.out)) | ((with_reducible refine wpList_part_store (op := ⟨none, .store 83 (.tmp 28) (.tmp 27), _, _, _, _⟩) ?pg1 83 (.tmp 28) (.tmp 27) ?po1 (i * 3) xc ?px1 ?py1 C2.out RL.out XZ.out CA.out ?_); (case pg1 => rfl); (case po1 => rfl); (case px1 => rfl); (case py1 => rfl)))
    intro Vz hA hF hB
    rw [HXC.out, List.toList_toArray, RP.out, ← HKK.out] at hA
    have HA := Lib.hid hA
    have HF2 : Hid (∀ j, j < V2.heap.size → j ≠ B + 1 → j ≠ B + 2 + s → Vz.heap[j]? = V2.heap[j]?) := fun j h0 h1 h2 => (hF j h2).trans (HF1.out j h1)
    have HB2 := Lib.hid (hB 0 (Nat.zero_le _))
    have hbs := (hB 0 (Nat.zero_le _))
    have hG2 : Blk Vz (B + 1) 78 (grC B st nn) := (hF _ (by omega)).trans G2.out
    have HP := Lib.hid (HG.out.put s i hi (some v) nn (by rw [← HKK.out]; exact HN2.out.symm) hG2 (by rw [← HKK.out]; exact HA.out) HF2.out)
    have HAP : Hid (Apart B (2 + st) w Vz) := (Apart.of_below K.out).trans ((Apart.of_grown HB1.out (by omega) (by omega)).trans ⟨hbs.os, hbs.tape, hbs.output, hbs.size, fun j h1 h2 => hF j (by omega)⟩)
    clear hA hF hB hG2 HA HF2 HB2 hbs C2 G2 HF1 HB1
    go_wp2
    go_ret
    exact ⟨rfl, HP.out, HAP.out⟩
  | some u =>
    replace c0 : V2.cell? ⟨B + 2 + s, i * 3, none⟩ = some (.bool true) := c0.trans (by rw [hc]; rfl)
    have HNN := Lib.hid (len_again c (st * sz) k HNK.out u v hc)
    obtain ⟨nn, hnn⟩ : ∃ nn, nn = (itF (putC c k (some v)) 0 (st * sz)).length := ⟨_, rfl⟩
    have HN2 := Lib.hid hnn
    rw [← hnn] at HNN
    obtain ⟨g0, g1⟩ := grC_get B st (itF c 0 (st * sz)).length
    have G1 := Lib.hid g1
    have GS1 := Lib.hid (grC_set B st (itF c 0 (st * sz)).length nn)
    have RP := Lib.hid (rowC_put encA 3 encA_len (by decide) c (s * sz) sz i hi (some v))
    have RL := Lib.hid (show i * 3 + (encA (some v)).toArray.size ≤ (rowC encA c (s * sz) sz).toArray.size by rw [List.size_toArray, List.size_toArray, rowC_len encA 3 encA_len, encA_len]; omega)
    have hn0 := HLN.out
    have hn1 := HSZ.out
    have hn2 := HNN.out
    have HKK := Lib.hid hk
    clear g0 g1 hnn hk hc
    generalize (itF c 0 (st * sz)).length = n at *
    clear hn0 hn1 hn2
    have C2 := C
    have G2 : Hid (Blk V2 (B + 1) 78 (grC B st nn)) := by show Blk _ _ _ _; rw [HNN.out]; exact G.out
    have HF1 : Hid (SameBut (B + 1) V2 V2) := fun k hk => rfl
    have HB1 : Hid (V2.grownBy V2 (some (B + 1))) := gb_of (Below.refl _ _) _
    clear G C
    have CA := Lib.hid (show (encA (some v)).toArray.all (·.oneCell') = true from by simp [encA]; first | done | exact ⟨rfl, rfl⟩ | exact ⟨rfl, rfl, rfl⟩)
    have HBU := Lib.hid (builtA v)
    obtain ⟨xc, hxc⟩ : ∃ x, x = (encA (some v)).toArray := ⟨_, rfl⟩
    rw [← hxc] at HBU RL CA
    have HXC := Lib.hid hxc
    have XZ : Hid ((Try.prog.info? 83).map (·.size) = some xc.size) := by rw [hxc]; exact i83
    clear hxc
    have LX := Lib.hid (run_blk_load (P := Try.prog) (w := V2) 46 (w.heap.size + 1) _ (X.out) Try.underlying46 rfl i46)
    go_wp2_with (first | ((with_reducible refine wpList_load_want (op := ⟨some 26, .load 46 (.tmp 5), _, _, _, _⟩) ?lg1 46 (.tmp 5) ?lo1 ⟨w.heap.size + 1, 0, none⟩ ?lx1 (.agg #[.int .i64 v.1, .int .i64 v.2]) LX.out ?_); (case lg1 => rfl); (case lo1 => rfl); (case lx1 => rfl)) | ((with_reducible refine wpList_built2 (op := ⟨some 27, .build 83 #[(0, Operand.const (Value.bool true)), (1, Operand.tmp 26)], _, _, _, _⟩) ?wg1 83 #[(0, Operand.const (Value.bool true)), (1, Operand.tmp 26)] ?wo1 #[(0, .bool true), (1, .agg #[.int .i64 v.1, .int .i64 v.2])] ?wv1 xc ?wf1 ?_); (case wg1 => rfl); (case wo1 => rfl); (case wv1 => kernel_rfl); (case wf1 => exact HBU.out)) | ((with_reducible refine wpList_part_store (op := ⟨none, .store 83 (.tmp 28) (.tmp 27), _, _, _, _⟩) ?pg1 83 (.tmp 28) (.tmp 27) ?po1 (i * 3) xc ?px1 ?py1 C2.out RL.out XZ.out CA.out ?_); (case pg1 => rfl); (case po1 => rfl); (case px1 => rfl); (case py1 => rfl)))
    intro Vz hA hF hB
    rw [HXC.out, List.toList_toArray, RP.out, ← HKK.out] at hA
    have HA := Lib.hid hA
    have HF2 : Hid (∀ j, j < V2.heap.size → j ≠ B + 1 → j ≠ B + 2 + s → Vz.heap[j]? = V2.heap[j]?) := fun j h0 h1 h2 => (hF j h2).trans (HF1.out j h1)
    have HB2 := Lib.hid (hB 0 (Nat.zero_le _))
    have hbs := (hB 0 (Nat.zero_le _))
    have hG2 : Blk Vz (B + 1) 78 (grC B st nn) := (hF _ (by omega)).trans G2.out
    have HP := Lib.hid (HG.out.put s i hi (some v) nn (by rw [← HKK.out]; exact HN2.out.symm) hG2 (by rw [← HKK.out]; exact HA.out) HF2.out)
    have HAP : Hid (Apart B (2 + st) w Vz) := (Apart.of_below K.out).trans ((Apart.of_grown HB1.out (by omega) (by omega)).trans ⟨hbs.os, hbs.tape, hbs.output, hbs.size, fun j h1 h2 => hF j (by omega)⟩)
    clear hA hF hB hG2 HA HF2 HB2 hbs C2 G2 HF1 HB1
    go_wp2
    go_ret
    exact ⟨rfl, HP.out, HAP.out⟩
set_option maxRecDepth 100000 in
set_option maxHeartbeats 4000000 in
theorem setS_in (B st sz : Nat) (c : Nat → Option ByteArray) (s i : Nat) (hs : s < st) (hi : i < sz) (v : ByteArray) (w : World) (h : GdS B st sz c w) :
    Calls Try.prog 24 #[.pointer (some ⟨B + 1, 0, none⟩), .agg (plA s i), .string v] w fun e w' => e = .returned (.bool true) ∧ GdS B st sz (putC c (s * sz + i) (some v)) w' ∧ Apart B (2 + st) w w' := by
  have K := Lib.hid (Below.refl w.heap.size w)
  have HG := Lib.hid h
  have CC := Lib.hid (fun W h => cellS_yes B st sz c s i hs hi W h)
  have qm : i * 2 < sz * 2 := by omega
  have hst := h.s2
  have hsz := h.z2
  have hlt := h.lt
  clear h
  have PI := Lib.hid (plA_i (s : Int) (i : Int))
  generalize plA (s : Int) (i : Int) = pc at *
  have hq := eqcS_some ⟨B + 2 + s, i * 2, none⟩
  go_enter Try.func24, Try.ntmps24
  have hal := (Below.refl w.heap.size w).alloc (Nat.le_refl _) (.cells pc 30)
  replace K := Lib.hid (K.out.trans (hal.mono K.out.size))
  replace HG := Lib.hid (HG.out.below hal)
  have P := Lib.hid (Blk.new w 30 pc)
  clear hal
  have L10 : (loadVar 30 ⟨w.heap.size, 0, none⟩).run Try.prog (w.alloc (.cells pc 30)) = .ok (.agg pc) (w.alloc (.cells pc 30)) := run_blk_load (P := Try.prog) 30 (w.heap.size) _ P.out Try.underlying30 rfl PI.out
  replace L10 := Lib.hid L10
  go_wp2_with (((with_reducible refine wpList_load_want (op := ⟨some 9, .load 30 (.tmp 4), _, _, _, _⟩) ?wg10 30 (.tmp 4) ?wo10 ⟨w.heap.size, 0, none⟩ ?wx10 (.agg pc) L10.out ?_); (case wg10 => rfl); (case wo10 => rfl); (case wx10 => rfl)))
  clear L10
  have hzV1 : Hid ((w.alloc (.cells pc 30)).heap.size = w.heap.size + 1) := by show _ = _; simp only [World.size_alloc]
  generalize (w.alloc (.cells pc 30)) = V1 at *
  refine (CC.out V1 HG.out).mono ?_
  rintro e V2 ⟨rfl, hy⟩
  replace K := Lib.hid (K.out.trans (hy.mono K.out.size))
  replace HG := Lib.hid (HG.out.below hy)
  replace P := Lib.hid (P.out.below hy P.out.lt)
  clear hy
  have G := Lib.hid HG.out.G
  have C := Lib.hid (HG.out.C s hs)
  obtain ⟨k, hk⟩ : ∃ k, k = s * sz + i := ⟨_, rfl⟩
  have HNK := Lib.hid (show k < st * sz from hk ▸ num_lt hs hi)
  have HSZ := Lib.hid (sz_le hst hsz)
  have HLN := Lib.hid (itF_len c 0 (st * sz))
  have c0 : V2.cell? ⟨B + 2 + s, i * 2, none⟩ = (encS (c (s * sz + i)))[0]? := HG.out.cellAt 2 encS_len s i 0 hs hi (by omega)
  have d1 := HG.out.cellAt 2 encS_len s i 1 hs hi (by omega)
  rw [← hk] at c0 d1
  cases hc : c k with
  | none =>
    replace c0 : V2.cell? ⟨B + 2 + s, i * 2, none⟩ = some (.bool false) := c0.trans (by rw [hc]; rfl)
    have HNN := Lib.hid (len_set c (st * sz) k HNK.out v hc)
    obtain ⟨nn, hnn⟩ : ∃ nn, nn = (itF (putC c k (some v)) 0 (st * sz)).length := ⟨_, rfl⟩
    have HN2 := Lib.hid hnn
    rw [← hnn] at HNN
    obtain ⟨g0, g1⟩ := grC_get B st (itF c 0 (st * sz)).length
    have G1 := Lib.hid g1
    have GS1 := Lib.hid (grC_set B st (itF c 0 (st * sz)).length nn)
    have RP := Lib.hid (rowC_put encS 2 encS_len (by decide) c (s * sz) sz i hi (some v))
    have RL := Lib.hid (show i * 2 + (encS (some v)).toArray.size ≤ (rowC encS c (s * sz) sz).toArray.size by rw [List.size_toArray, List.size_toArray, rowC_len encS 2 encS_len, encS_len]; omega)
    have hn0 := HLN.out
    have hn1 := HSZ.out
    have hn2 := HNN.out
    have HKK := Lib.hid hk
    clear g0 g1 hnn hk hc
    generalize (itF c 0 (st * sz)).length = n at *
    have w1 : IntKind.i64.wrap ((n : Int) + 1) = (nn : Int) := by rw [IntKind.wrap_i64]; omega
    clear hn0 hn1 hn2
    have k1 := (G.out.cell 1).trans G1.out
    have k2 := G.out.frozen 1
    have C2 := Lib.hid (C.out.far (p := ⟨B + 1, 1, none⟩) (by show B + 2 + s ≠ B + 1; omega) (.int .i64 (nn : Int)))
    have G2 := Lib.hid (G.out.set_ 1 (.int .i64 (nn : Int)))
    rw [GS1.out] at G2
    have HF1 : Hid (SameBut (B + 1) V2 (V2.setCell ⟨B + 1, 1, none⟩ (.int .i64 (nn : Int)))) := fun k hk => Below.heap_setCell _ _ _ k hk
    have HB1 : Hid (V2.grownBy (V2.setCell ⟨B + 1, 1, none⟩ (.int .i64 (nn : Int))) (some (B + 1))) := gb_cell _ _ _ _
    clear G C
    have CA := Lib.hid (show (encS (some v)).toArray.all (·.oneCell') = true from by simp [encS]; first | done | exact ⟨rfl, rfl⟩ | exact ⟨rfl, rfl, rfl⟩)
    have HBU := Lib.hid (builtS v)
    obtain ⟨xc, hxc⟩ : ∃ x, x = (encS (some v)).toArray := ⟨_, rfl⟩
    rw [← hxc] at HBU RL CA
    have HXC := Lib.hid hxc
    have XZ : Hid ((Try.prog.info? 91).map (·.size) = some xc.size) := by rw [hxc]; exact i91
    clear hxc
    go_wp2_with (first | ((with_reducible refine wpList_built2 (op := ⟨some 27, .build 91 #[(0, Operand.const (Value.bool true)), (1, Operand.tmp 26)], _, _, _, _⟩) ?wg1 91 #[(0, Operand.const (Value.bool true)), (1, Operand.tmp 26)] ?wo1 #[(0, .bool true), (1, .string v)] ?wv1 xc ?wf1 ?_); (case wg1 => rfl); (case wo1 => rfl); (case wv1 => kernel_rfl); (case wf1 => exact HBU.out)) | ((with_reducible refine wpList_part_store (op := ⟨none, .store 91 (.tmp 28) (.tmp 27), _, _, _, _⟩) ?pg1 91 (.tmp 28) (.tmp 27) ?po1 (i * 2) xc ?px1 ?py1 C2.out RL.out XZ.out CA.out ?_); (case pg1 => rfl); (case po1 => rfl); (case px1 => rfl); (case py1 => rfl)))
    intro Vz hA hF hB
    rw [HXC.out, List.toList_toArray, RP.out, ← HKK.out] at hA
    have HA := Lib.hid hA
    have HF2 : Hid (∀ j, j < V2.heap.size → j ≠ B + 1 → j ≠ B + 2 + s → Vz.heap[j]? = V2.heap[j]?) := fun j h0 h1 h2 => (hF j h2).trans (HF1.out j h1)
    have HB2 := Lib.hid (hB 0 (Nat.zero_le _))
    have hbs := (hB 0 (Nat.zero_le _))
    have hG2 : Blk Vz (B + 1) 86 (grC B st nn) := (hF _ (by omega)).trans G2.out
    have HP := Lib.hid (HG.out.put s i hi (some v) nn (by rw [← HKK.out]; exact HN2.out.symm) hG2 (by rw [← HKK.out]; exact HA.out) HF2.out)
    have HAP : Hid (Apart B (2 + st) w Vz) := (Apart.of_below K.out).trans ((Apart.of_grown HB1.out (by omega) (by omega)).trans ⟨hbs.os, hbs.tape, hbs.output, hbs.size, fun j h1 h2 => hF j (by omega)⟩)
    clear hA hF hB hG2 HA HF2 HB2 hbs C2 G2 HF1 HB1
    go_wp2
    go_ret
    exact ⟨rfl, HP.out, HAP.out⟩
  | some u =>
    replace c0 : V2.cell? ⟨B + 2 + s, i * 2, none⟩ = some (.bool true) := c0.trans (by rw [hc]; rfl)
    have HNN := Lib.hid (len_again c (st * sz) k HNK.out u v hc)
    obtain ⟨nn, hnn⟩ : ∃ nn, nn = (itF (putC c k (some v)) 0 (st * sz)).length := ⟨_, rfl⟩
    have HN2 := Lib.hid hnn
    rw [← hnn] at HNN
    obtain ⟨g0, g1⟩ := grC_get B st (itF c 0 (st * sz)).length
    have G1 := Lib.hid g1
    have GS1 := Lib.hid (grC_set B st (itF c 0 (st * sz)).length nn)
    have RP := Lib.hid (rowC_put encS 2 encS_len (by decide) c (s * sz) sz i hi (some v))
    have RL := Lib.hid (show i * 2 + (encS (some v)).toArray.size ≤ (rowC encS c (s * sz) sz).toArray.size by rw [List.size_toArray, List.size_toArray, rowC_len encS 2 encS_len, encS_len]; omega)
    have hn0 := HLN.out
    have hn1 := HSZ.out
    have hn2 := HNN.out
    have HKK := Lib.hid hk
    clear g0 g1 hnn hk hc
    generalize (itF c 0 (st * sz)).length = n at *
    clear hn0 hn1 hn2
    have C2 := C
    have G2 : Hid (Blk V2 (B + 1) 86 (grC B st nn)) := by show Blk _ _ _ _; rw [HNN.out]; exact G.out
    have HF1 : Hid (SameBut (B + 1) V2 V2) := fun k hk => rfl
    have HB1 : Hid (V2.grownBy V2 (some (B + 1))) := gb_of (Below.refl _ _) _
    clear G C
    have CA := Lib.hid (show (encS (some v)).toArray.all (·.oneCell') = true from by simp [encS]; first | done | exact ⟨rfl, rfl⟩ | exact ⟨rfl, rfl, rfl⟩)
    have HBU := Lib.hid (builtS v)
    obtain ⟨xc, hxc⟩ : ∃ x, x = (encS (some v)).toArray := ⟨_, rfl⟩
    rw [← hxc] at HBU RL CA
    have HXC := Lib.hid hxc
    have XZ : Hid ((Try.prog.info? 91).map (·.size) = some xc.size) := by rw [hxc]; exact i91
    clear hxc
    go_wp2_with (first | ((with_reducible refine wpList_built2 (op := ⟨some 27, .build 91 #[(0, Operand.const (Value.bool true)), (1, Operand.tmp 26)], _, _, _, _⟩) ?wg1 91 #[(0, Operand.const (Value.bool true)), (1, Operand.tmp 26)] ?wo1 #[(0, .bool true), (1, .string v)] ?wv1 xc ?wf1 ?_); (case wg1 => rfl); (case wo1 => rfl); (case wv1 => kernel_rfl); (case wf1 => exact HBU.out)) | ((with_reducible refine wpList_part_store (op := ⟨none, .store 91 (.tmp 28) (.tmp 27), _, _, _, _⟩) ?pg1 91 (.tmp 28) (.tmp 27) ?po1 (i * 2) xc ?px1 ?py1 C2.out RL.out XZ.out CA.out ?_); (case pg1 => rfl); (case po1 => rfl); (case px1 => rfl); (case py1 => rfl)))
    intro Vz hA hF hB
    rw [HXC.out, List.toList_toArray, RP.out, ← HKK.out] at hA
    have HA := Lib.hid hA
    have HF2 : Hid (∀ j, j < V2.heap.size → j ≠ B + 1 → j ≠ B + 2 + s → Vz.heap[j]? = V2.heap[j]?) := fun j h0 h1 h2 => (hF j h2).trans (HF1.out j h1)
    have HB2 := Lib.hid (hB 0 (Nat.zero_le _))
    have hbs := (hB 0 (Nat.zero_le _))
    have hG2 : Blk Vz (B + 1) 86 (grC B st nn) := (hF _ (by omega)).trans G2.out
    have HP := Lib.hid (HG.out.put s i hi (some v) nn (by rw [← HKK.out]; exact HN2.out.symm) hG2 (by rw [← HKK.out]; exact HA.out) HF2.out)
    have HAP : Hid (Apart B (2 + st) w Vz) := (Apart.of_below K.out).trans ((Apart.of_grown HB1.out (by omega) (by omega)).trans ⟨hbs.os, hbs.tape, hbs.output, hbs.size, fun j h1 h2 => hF j (by omega)⟩)
    clear hA hF hB hG2 HA HF2 HB2 hbs C2 G2 HF1 HB1
    go_wp2
    go_ret
    exact ⟨rfl, HP.out, HAP.out⟩
end Go.Proofs.Ytimnmdeiiahakaa
