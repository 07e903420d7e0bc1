/- Texts that the walks of this seat lean on, put together. -/
import Derived.StillTailTactics
import Derived.Deep.CutBlock
import Derived.Deep.DeepCutAuto
import Derived.LoopTactic
import Derived.Handy
import Derived.Test.YthldpnifodbheaaTk
import Derived.Test.YthldpnifodbheaaTl
import Derived.Test.YthldpnifodbheaaM22
import Derived.Test.YthldpnifodbheaaM23
import Derived.Test.YthldpnifodbheaaM25
import Derived.Test.YthldpnifodbheaaM26
import Derived.Test.YthldpnifodbheaaM28
import Derived.Test.YthldpnifodbheaaM29
namespace Go.Proofs.Ythldpnifodbheaa
open Go.RowKit Go.Lib
def rmy : Cf := ⟨4, 256, 16, 65536, 4, 32, 16, 256, 64, 1000, 2, 2, false, false, z16, true, z16, 1⟩
set_option maxRecDepth 100000 in
theorem rmy_fit : rmy.Fit := ⟨rfl, rfl, z16_lt, z16_lt, by decide⟩
set_option maxRecDepth 100000 in
theorem rmy_ok : okC rmy = true := by kernel_rfl
set_option maxRecDepth 100000 in
theorem built_rmy : Try.prog.built 29 [(0, .int .i64 4), (1, .int .i64 256), (2, .int .i64 16), (3, .int .i64 65536), (4, .int .i64 4), (5, .int .i64 32), (6, .int .i64 16), (7, .int .i64 256), (8, .int .i64 64), (9, .int .i64 1000), (10, .int .i64 2), (11, .int .i64 2), (14, .agg (cellsA true z16)), (15, .int .u32 1)] = some rmy.cs := by kernel_rfl
set_option maxRecDepth 100000 in
set_option maxHeartbeats 4000000 in
theorem roomy_any (w : World) : Calls Try.prog 22 #[.int .i64 1] w fun e w' => e = .returned (.agg rmy.cs) ∧ Below w.heap.size w w' := by
  have K := lh (Below.refl w.heap.size w)
  obtain ⟨ZC, hZC⟩ : ∃ Z, Z = cf0.cs := ⟨_, rfl⟩
  have z27 : ∀ W, (zeroValue 29).run Try.prog W = .ok (.agg ZC) W := by rw [hZC]; exact zero27
  have hZS : ZC.size = 48 := by rw [hZC]; exact cf_size _ cf0_fit
  clear hZC
  have CR := lh (fun W => round_any 1 1073741824 W (by decide) (by decide))
  rw [show (1 : Int) % 1073741824 = 1 from rfl] at CR
  have B24 := lh built_own6
  have B27 := lh built_rmy
  have RS := cf_size _ rmy_fit
  have RZ := lh (cf_ic _ rmy_fit)
  have RA := lh (cf_all rmy)
  generalize rmy.cs = R at *
  generalize cellsA true z16 = A6 at *
  have RY : Hid (R.size = ZC.size) := by show _ = _; rw [RS, hZS]
  clear RS hZS
  go_enter Try.func22, Try.ntmps22
  have hal := (Below.refl w.heap.size w).alloc (Nat.le_refl _) (.cells ZC 29)
  replace K := lh (K.out.trans (hal.mono K.out.size))
  have P := lh (Blk.new w 29 ZC)
  clear hal
  go_wp2_with (((with_reducible refine wpList_built2 (op := ⟨some 3, .build 26 #[(0, Operand.const (Value.bool true))], _, _, _, _⟩) ?wg3 26 #[(0, Operand.const (Value.bool true))] ?wo3 #[(0, .bool true)] ?wv3 A6 ?wf3 ?_); (case wg3 => rfl); (case wo3 => rfl); (case wv3 => kernel_rfl); (case wf3 => exact B24.out)))
  have hzV1 : Hid ((w.alloc (.cells ZC 29)).heap.size = w.heap.size + 1) := by show _ = _; simp only [World.size_alloc]
  generalize (w.alloc (.cells ZC 29)) = V1 at *
  refine (same_below (CR.out V1)).mono ?_
  rintro e V2 ⟨rfl, hy⟩
  replace K := lh (K.out.trans (hy.mono K.out.size))
  replace P := lh (P.out.below hy P.out.lt)
  clear hy
  go_wp2_with (first | ((with_reducible refine wpList_built2 (op := ⟨some 7, .build 29 #[(0, Operand.const (Value.int IntKind.i64 4)), (1, Operand.const (Value.int IntKind.i64 256)), (2, Operand.const (Value.int IntKind.i64 16)), (3, Operand.const (Value.int IntKind.i64 65536)), (4, Operand.const (Value.int IntKind.i64 4)), (5, Operand.const (Value.int IntKind.i64 32)), (6, Operand.const (Value.int IntKind.i64 16)), (7, Operand.const (Value.int IntKind.i64 256)), (8, Operand.const (Value.int IntKind.i64 64)), (9, Operand.const (Value.int IntKind.i64 1000)), (10, Operand.const (Value.int IntKind.i64 2)), (11, Operand.const (Value.int IntKind.i64 2)), (14, Operand.tmp 3), (15, Operand.tmp 6)], _, _, _, _⟩) ?wg7 29 #[(0, Operand.const (Value.int IntKind.i64 4)), (1, Operand.const (Value.int IntKind.i64 256)), (2, Operand.const (Value.int IntKind.i64 16)), (3, Operand.const (Value.int IntKind.i64 65536)), (4, Operand.const (Value.int IntKind.i64 4)), (5, Operand.const (Value.int IntKind.i64 32)), (6, Operand.const (Value.int IntKind.i64 16)), (7, Operand.const (Value.int IntKind.i64 256)), (8, Operand.const (Value.int IntKind.i64 64)), (9, Operand.const (Value.int IntKind.i64 1000)), (10, Operand.const (Value.int IntKind.i64 2)), (11, Operand.const (Value.int IntKind.i64 2)), (14, Operand.tmp 3), (15, Operand.tmp 6)] ?wo7 #[(0, .int .i64 4), (1, .int .i64 256), (2, .int .i64 16), (3, .int .i64 65536), (4, .int .i64 4), (5, .int .i64 32), (6, .int .i64 16), (7, .int .i64 256), (8, .int .i64 64), (9, .int .i64 1000), (10, .int .i64 2), (11, .int .i64 2), (14, .agg A6), (15, .int .u32 1)] ?wv7 R ?wf7 ?_); (case wg7 => rfl); (case wo7 => rfl); (case wv7 => kernel_rfl); (case wf7 => exact B27.out)) | ((with_reducible refine wpList_blk_store (op := ⟨none, .store 29 (.tmp 2) (.tmp 7), _, _, _, _⟩) ?sg1 29 (.tmp 2) (.tmp 7) ?so1 (w.heap.size) R ?sx1 ?sy1 P.out RY.out RZ.out RA.out ?_); (case sg1 => rfl); (case so1 => rfl); (case sx1 => rfl); (case sy1 => rfl)))
  intro V3 hA hF hB
  replace K := lh (K.out.trans (hB _ (by omega)))
  replace P := lh hA
  clear hA hF hB
  go_wp2
  have hrun := run_blk_load (P := Try.prog) 29 w.heap.size _ P.out Try.underlying29 rfl RZ.out
  exact bodyPost_ret (results_cell 2 29 w.heap.size _ Try.results22 rfl hrun) rfl ⟨rfl, K.out⟩
end Go.Proofs.Ythldpnifodbheaa
