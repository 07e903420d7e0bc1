/- Texts that the walks of this seat lean on, put together. -/
import Derived.StillTailTactics
import Derived.Laws.Tables
import Derived.Lib.QuietBelow
import Derived.Deep.RegionHeld
import Derived.Below
import Derived.BigFrame
import Derived.LoopTactic
import Derived.Handy
import Derived.Lib.Hide
import Derived.Test.YtnpibdjfafpegaaTk
import Derived.Test.YtnpibdjfafpegaaM04
import Derived.Test.YtnpibdjfafpegaaM11
namespace Go.Proofs.Ytnpibdjfafpegaa
open Go.RowKit Go.Sort
theorem still_load {P : Program} {w : World} {K : Act → Prop} {o : Oper} {a : Act} (ty : TypeId) (x : Operand) (ho : o.op = .load ty x) (p : Addr) (hx : a.eval x = .pointer (some p)) (v : Value)
    (hl : (loadVar ty p).run P w = .ok v w) (h : K (a.put o.dst v)) : o.still P a w K := by
  unfold Oper.still execOp
  simp only [ho, hx, Instr.loadAt, Instr.sureAddr, Sem.run_bind, Sem.run_pure, Result.andThen_ok, hl]
  exact ⟨rfl, h⟩
theorem still_build {P : Program} {w : World} {K : Act → Prop} {o : Oper} {a : Act} (t : TypeId) (parts : Array (Nat × Operand)) (ho : o.op = .build t parts) (cells : Array Value)
    (hf : P.built t (parts.map fun (i, x) => (i, a.eval x)).toList = some cells) (h : K (a.put o.dst (.agg cells))) : o.still P a w K := by
  unfold Oper.still execOp
  simp only [ho, Sem.run_bind, run_build w t _ cells hf, Result.andThen_ok]
  exact ⟨rfl, h⟩
theorem still_build2 {P : Program} {w : World} {K : Act → Prop} {o : Oper} {a : Act} (t : TypeId) (parts : Array (Nat × Operand)) (ho : o.op = .build t parts) (vals : Array (Nat × Value)) (hv : (parts.map fun (i, x) => (i, a.eval x)) = vals) (cells : Array Value)
    (hf : P.built t vals.toList = some cells) (h : K (a.put o.dst (.agg cells))) : o.still P a w K :=
  still_build t parts ho cells (by rw [hv]; exact hf) h
theorem exec_load {P : Program} {w : World} {o : Oper} {a : Act} (ty : TypeId) (x : Operand) (ho : o.op = .load ty x) (p : Addr) (hx : a.eval x = .pointer (some p)) (v : Value)
    (hl : (loadVar ty p).run P w = .ok v w) : (execOp a.eval o).run P w = .ok (.value v) w := by
  unfold execOp
  simp only [ho, hx, Instr.loadAt, Instr.sureAddr, Sem.run_bind, Sem.run_pure, Result.andThen_ok, hl]
theorem exec_build {P : Program} {w : World} {o : Oper} {a : Act} (t : TypeId) (parts : Array (Nat × Operand)) (ho : o.op = .build t parts) (vals : Array (Nat × Value)) (hv : (parts.map fun (i, x) => (i, a.eval x)) = vals) (cells : Array Value)
    (hf : P.built t vals.toList = some cells) : (execOp a.eval o).run P w = .ok (.value (.agg cells)) w := by
  subst hv
  unfold execOp
  simp only [ho, Sem.run_bind, run_build w t _ cells hf, Result.andThen_ok, Sem.run_pure]
theorem run_part_load {P : Program} {w : World} {g : Nat} {t : TypeId} {cs : Array Value} (ty : TypeId) (off : Nat) (ps : List Value) (d : TypeDesc) (hc : Blk w g t cs) (hp : (cs.toList.drop off).take ps.length = ps) (hu : P.underlying ty = some d) (hd : d.isRow = true) (hi : (P.info? ty).map (·.size) = some ps.length) :
    (loadVar ty ⟨g, off, none⟩).run P w = .ok (.agg ps.toArray) w :=
  run_loadVar_mid (P := P) w g off ty ps d (fun j v hj => by
    rw [hc.cell (off + j), ← Array.getElem?_toList, ← List.getElem?_drop]
    have hjl : j < ps.length := (List.getElem?_eq_some_iff.1 hj).1
    rw [← List.getElem?_take_of_lt hjl, hp]; exact hj) hu hd hi
end Go.Proofs.Ytnpibdjfafpegaa
namespace Go.Proofs.Ytnpibdjfafpegaa
open Go.RowKit
theorem wpAnyH_mono {P : Program} {ops : Array Oper} {Q : Exit → Act → World → Prop} {md : Region.Mode} {S S' : World → Prop} (hS : ∀ w, S' w → S w) :
    ∀ (fuel : Nat) (listed : Array Bool) (a : Act) (w : World), wpAnyH P md ops Q S' fuel listed a w → wpAnyH P md ops Q S fuel listed a w
  | 0, _, _, _, h => h
  | _ + 1, _, _, _, h => ⟨h.1, fun i hi => wpOp_mono (fun _ _ h' => ⟨hS _ h'.1, wpAnyH_mono hS _ _ _ _ h'.2⟩) (h.2 i hi)⟩
end Go.Proofs.Ytnpibdjfafpegaa
namespace Go.Proofs.Ytnpibdjfafpegaa
open Go.RowKit
theorem same_below {P : Program} {f : Nat} {args : Array Value} {W : World} {x : Ending} (h : Calls P f args W fun e w' => e = x ∧ W = w') : Calls P f args W fun e w' => e = x ∧ Below W.heap.size W w' :=
  h.mono fun _ _ ⟨h1, h2⟩ => ⟨h1, h2 ▸ Below.refl _ _⟩
theorem rd_cell {w : World} {b off n : Nat} {v : Value} (h : w.cell? ⟨b, off + n, none⟩ = some v) : b < w.heap.size := by
  rcases Nat.lt_or_ge b w.heap.size with hlt | hge
  · exact hlt
  · simp [World.cell?, Array.getElem?_eq_none hge] at h
end Go.Proofs.Ytnpibdjfafpegaa
namespace Go.Proofs.Ytnpibdjfafpegaa
open Go.RowKit
theorem wpList_load_want {P : Program} {ops : Array Oper} {rest : List Oper} {op : Oper} {a : Act} {w : World} {Q : Exit → Act → World → Prop} (hw : Region.wanted op (yielded ops a.tmps) = true) (ty : TypeId) (x : Operand) (ho : op.op = .load ty x)
    (p : Addr) (hx : a.eval x = .pointer (some p)) (v : Value) (hl : (loadVar ty p).run P w = .ok v w) (h : wpList P ops Q rest (a.put op.dst v) w) : wpList P ops Q (op :: rest) a w :=
  BigFrame.wpList_want hw fun K hK => by
    unfold Oper.wp
    simp only [exec_load ty x ho p hx v hl]
    exact hK _ _ h
end Go.Proofs.Ytnpibdjfafpegaa
namespace Go.Proofs.Ytnpibdjfafpegaa
open Go.RowKit
theorem wp_blk_store {P : Program} {w : World} {K : Act → World → Prop} {Q : Exit → Act → World → Prop} {g : Nat} {t : TypeId} {cs : Array Value} {op : Oper} {a : Act} (ty : TypeId) (x y : Operand) (ho : op.op = .store ty x y)
    (vs : Array Value) (hx : a.eval x = .pointer (some ⟨g, 0, none⟩)) (hy : a.eval y = .agg vs) (hc : Blk w g t cs) (hs : vs.size = cs.size)
    (hi : (P.info? ty).map (·.size) = some vs.size) (h1 : vs.all (·.oneCell') = true)
    (h : ∀ w', Blk w' g t vs → (∀ k, k ≠ g → w'.heap[k]? = w.heap[k]?) → (∀ B, B ≤ g → Below B w w') → K (a.put op.dst undef) w') : op.wp P a w K Q :=
  wp_store_mid ty x y ho g 0 vs hx hy (hc.thereN (by omega)) hi h1
    (h _ (hc.setAll vs hs) (fun k hk => setCells_far k hk _ _ _) (fun B hB => setCells_below hB _ _ _ (Below.refl _ _)))
end Go.Proofs.Ytnpibdjfafpegaa
namespace Go.Proofs.Ytnpibdjfafpegaa
open Go.RowKit
theorem fill_set (v : Bool) (bs : List Nat) (k : Nat) (h : k < bs.length) (h2 : bs.length ≤ 16) :
    (cellsA v (bs.take k ++ List.replicate (16 - k) 0)).setIfInBounds (1 + k) (.int .u8 ((bs.getD k 0 : Nat) : Int)) = cellsA v (bs.take (k + 1) ++ List.replicate (16 - (k + 1)) 0) := by
  have hl : (bs.take k).length = k := by simp; omega
  have h1 := set_zeros (bs.take k) (16 - k) (bs.getD k 0) (by omega)
  rw [hl] at h1
  rw [cellsA_set, h1, List.take_succ_eq_append_getElem h, show 16 - k - 1 = 16 - (k + 1) from by omega]
  simp [List.getD_eq_getElem?_getD, List.getElem?_eq_getElem h]
structure InF (w : World) (v : Bool) (bs : List Nat) (k : Nat) (wr : World) : Prop where
  le : k ≤ bs.length
  out : Blk wr w.heap.size 27 (cellsA false (List.replicate 16 0))
  own : Blk wr (w.heap.size + 1) 27 (cellsA v (bs.take k ++ List.replicate (16 - k) 0))
  low : Below w.heap.size w wr
theorem rj25 : (Try.prog.info? 27).map (·.size) = some 17 := by kernel_rfl
set_option maxRecDepth 100000 in
set_option maxHeartbeats 2000000 in
theorem rfrom_ok (va : Value) (v : Bool) (bs : List Nat) (w : World) (hr : Rd w va (nus .u8 bs)) (h : bs.length = 4 ∧ v = false ∨ bs.length = 16 ∧ v = true) :
    Calls Try.prog 50 #[va] w fun e w' => e = .returned (.tuple #[adr v (bs ++ List.replicate (16 - bs.length) 0), .int .i64 0]) ∧ Below w.heap.size w w' := by
  obtain ⟨a, cap, rfl, hlc, hcm⟩ := rd_shape hr
  obtain ⟨b, off, rfl, hc⟩ := hr.cells (by omega)
  have hstart : InF w v bs 0 ((w.alloc (.cells (cellsA false (List.replicate 16 0)) 27)).alloc (.cells (cellsA v (List.replicate 16 0)) 27)) := by
    have hn := Blk.new (w.alloc (.cells (cellsA false (List.replicate 16 0)) 27)) 27 (cellsA v (List.replicate 16 0))
    rw [World.size_alloc] at hn
    exact ⟨Nat.zero_le _, (Blk.new w 27 _).alloc _, hn, ((Below.refl _ w).alloc (Nat.le_refl _) _).alloc (by simp) _⟩
  have H0 := Lib.hid hstart
  have HC := Lib.hid hc
  have HV := Lib.hid h
  have hlen : bs.length ≤ 16 := by omega
  have hb0 : b < w.heap.size := by
    have c0 := hc 0 (by omega)
    rcases Nat.lt_or_ge b w.heap.size with h | h
    · exact h
    · simp [World.cell?, Array.getElem?_eq_none h] at c0
  have HST := Lib.hid (fun k hk => fill_set v bs k hk hlen)
  unfold maxLen at hcm
  clear hstart hr hc
  rcases h with ⟨h, rfl⟩ | ⟨h, rfl⟩
  · have HL := Lib.hid h
    rw [h] at hlc ⊢
    clear h hlen
    go_enter Try.func50, Try.ntmps50
    go_wp2
    go_loopw [5] (fun i wr => ∃ k : Nat, i = .int .i64 (k : Int) ∧ Hid (InF w false bs k wr)) (fun i _ => 4 - (RowKit.intOf i).toNat)
    case atStart => exact ⟨0, rfl, H0⟩
    case round =>
      obtain ⟨k, rfl, hI⟩ := hrel
      by_cases hlt : k < 4
      · have hc1 := (hI.out.low.cell (p := ⟨b, off + k, none⟩) hb0).trans (HC.out k (by rw [HL.out]; exact hlt))
        have hfz := hI.out.own.frozen (1 + k)
        have hcell := (hI.out.own.cell (1 + k)).trans (cellsA_get _ _ k (by simp [HL.out]; omega))
        generalize (bs.take k ++ List.replicate (16 - k) 0).getD k 0 = was at hcell
        have hki : (k : Int) < 4 := by omega
        go_wp2
        go_roundw
        case rel =>
          refine ⟨k + 1, by go_num, Lib.hid ⟨by rw [HL.out]; omega, hI.out.out.far (by simp) _, ?_, hI.out.low.setCell (p := ⟨w.heap.size + 1, 1 + k, none⟩) (Nat.le_succ _) _⟩⟩
          have h := hI.out.own.set_ (1 + k) (.int .u8 ((bs.getD k 0 : Nat) : Int))
          rw [HST.out k (by rw [HL.out]; exact hlt)] at h
          exact h
        case measure => simp [RowKit.intOf]; omega
      · obtain rfl : k = 4 := by have := hI.out.le; rw [HL.out] at this; omega
        have e : bs.take 4 ++ List.replicate (16 - 4) 0 = bs ++ List.replicate (16 - 4) 0 := by rw [List.take_of_length_le (by rw [HL.out]; exact Nat.le_refl _)]
        have ho := hI.out.own
        rw [e] at ho
        have hsz : (cellsA false (bs ++ List.replicate (16 - 4) 0)).size = 17 := by rw [cellsA_size, List.length_append, List.length_replicate, HL.out]
        have hal : (cellsA false (bs ++ List.replicate (16 - 4) 0)).all (·.oneCell') = true := cellsA_all _ _
        have HE := Lib.hid (show adr false (bs ++ List.replicate (16 - 4) 0) = .agg (cellsA false (bs ++ List.replicate (16 - 4) 0)) from rfl)
        generalize cellsA false (bs ++ List.replicate (16 - 4) 0) = c at ho hsz hal HE
        have HO := Lib.hid ho
        have Z := Lib.hid (rj25.trans (congrArg some hsz.symm))
        have Z0 := Lib.hid (hsz.trans (cellsA_size false (List.replicate 16 0)).symm)
        have A := Lib.hid hal
        clear ho hsz hal e
        go_wp2_with (first
          | ((with_reducible refine wpList_blk_load (op := ⟨some 32, .load 27 (.tmp 4), _, _, _, _⟩) ?lg1 27 (.tmp 4) ?lo1 (w.heap.size + 1) ?lx1 _ HO.out Try.underlying27 ?ld1 Z.out ?_); (case lg1 => rfl); (case lo1 => rfl); (case lx1 => rfl); (case ld1 => rfl))
          | ((with_reducible refine wpList_blk_store (op := ⟨none, .store 27 (.tmp 2) (.tmp 32), _, _, _, _⟩) ?sg1 27 (.tmp 2) (.tmp 32) ?so1 w.heap.size c ?sx1 ?sy1 hI.out.out Z0.out Z.out A.out ?_); (case sg1 => rfl); (case so1 => rfl); (case sx1 => rfl); (case sy1 => rfl)))
        intro w3 hA hF hB
        have HA := Lib.hid hA
        have K3 := Lib.hid (hI.out.low.trans (hB _ (Nat.le_refl _)))
        clear hF hA hB
        go_wp2
        have hrun := run_blk_load (P := Try.prog) 27 w.heap.size _ HA.out Try.underlying27 rfl Z.out
        exact bodyPost_ret (results_cell_tmp 2 27 3 w.heap.size _ Try.results50 rfl hrun) rfl ⟨by rw [HE.out]; rfl, K3.out⟩
  · have HL := Lib.hid h
    rw [h] at hlc ⊢
    clear h hlen
    go_enter Try.func50, Try.ntmps50
    go_wp2
    go_loopw [5] (fun i wr => ∃ k : Nat, i = .int .i64 (k : Int) ∧ Hid (InF w true bs k wr)) (fun i _ => 16 - (RowKit.intOf i).toNat)
    case atStart => exact ⟨0, rfl, H0⟩
    case round =>
      obtain ⟨k, rfl, hI⟩ := hrel
      by_cases hlt : k < 16
      · have hc1 := (hI.out.low.cell (p := ⟨b, off + k, none⟩) hb0).trans (HC.out k (by rw [HL.out]; exact hlt))
        have hfz := hI.out.own.frozen (1 + k)
        have hcell := (hI.out.own.cell (1 + k)).trans (cellsA_get _ _ k (by simp [HL.out]; omega))
        generalize (bs.take k ++ List.replicate (16 - k) 0).getD k 0 = was at hcell
        have hki : (k : Int) < 16 := by omega
        go_wp2
        go_roundw
        case rel =>
          refine ⟨k + 1, by go_num, Lib.hid ⟨by rw [HL.out]; omega, hI.out.out.far (by simp) _, ?_, hI.out.low.setCell (p := ⟨w.heap.size + 1, 1 + k, none⟩) (Nat.le_succ _) _⟩⟩
          have h := hI.out.own.set_ (1 + k) (.int .u8 ((bs.getD k 0 : Nat) : Int))
          rw [HST.out k (by rw [HL.out]; exact hlt)] at h
          exact h
        case measure => simp [RowKit.intOf]; omega
      · obtain rfl : k = 16 := by have := hI.out.le; rw [HL.out] at this; omega
        have e : bs.take 16 ++ List.replicate (16 - 16) 0 = bs ++ List.replicate (16 - 16) 0 := by rw [List.take_of_length_le (by rw [HL.out]; exact Nat.le_refl _)]
        have ho := hI.out.own
        rw [e] at ho
        have hsz : (cellsA true (bs ++ List.replicate (16 - 16) 0)).size = 17 := by rw [cellsA_size, List.length_append, List.length_replicate, HL.out]
        have hal : (cellsA true (bs ++ List.replicate (16 - 16) 0)).all (·.oneCell') = true := cellsA_all _ _
        have HE := Lib.hid (show adr true (bs ++ List.replicate (16 - 16) 0) = .agg (cellsA true (bs ++ List.replicate (16 - 16) 0)) from rfl)
        generalize cellsA true (bs ++ List.replicate (16 - 16) 0) = c at ho hsz hal HE
        have HO := Lib.hid ho
        have Z := Lib.hid (rj25.trans (congrArg some hsz.symm))
        have Z0 := Lib.hid (hsz.trans (cellsA_size false (List.replicate 16 0)).symm)
        have A := Lib.hid hal
        clear ho hsz hal e
        go_wp2_with (first
          | ((with_reducible refine wpList_blk_load (op := ⟨some 32, .load 27 (.tmp 4), _, _, _, _⟩) ?lg2 27 (.tmp 4) ?lo2 (w.heap.size + 1) ?lx2 _ HO.out Try.underlying27 ?ld2 Z.out ?_); (case lg2 => rfl); (case lo2 => rfl); (case lx2 => rfl); (case ld2 => rfl))
          | ((with_reducible refine wpList_blk_store (op := ⟨none, .store 27 (.tmp 2) (.tmp 32), _, _, _, _⟩) ?sg2 27 (.tmp 2) (.tmp 32) ?so2 w.heap.size c ?sx2 ?sy2 hI.out.out Z0.out Z.out A.out ?_); (case sg2 => rfl); (case so2 => rfl); (case sx2 => rfl); (case sy2 => rfl)))
        intro w3 hA hF hB
        have HA := Lib.hid hA
        have K3 := Lib.hid (hI.out.low.trans (hB _ (Nat.le_refl _)))
        clear hF hA hB
        go_wp2
        have hrun := run_blk_load (P := Try.prog) 27 w.heap.size _ HA.out Try.underlying27 rfl Z.out
        exact bodyPost_ret (results_cell_tmp 2 27 3 w.heap.size _ Try.results50 rfl hrun) rfl ⟨by rw [HE.out]; rfl, K3.out⟩
end Go.Proofs.Ytnpibdjfafpegaa
