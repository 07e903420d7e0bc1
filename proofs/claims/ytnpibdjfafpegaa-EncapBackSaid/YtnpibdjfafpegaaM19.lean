/- Texts that the walks of this seat lean on, put together. -/
import Derived.Test.YtnpibdjfafpegaaTk
import Derived.Test.YtnpibdjfafpegaaM13
import Derived.Test.YtnpibdjfafpegaaM14
namespace Go.Proofs.Ytnpibdjfafpegaa
open Go.RowKit
set_option maxHeartbeats 1000000 in
theorem rv4_any (va : Value) (bs : List Nat) (w : World) (hr : Rd w va (nus .u8 bs)) (h : bs.length = 4) :
    Calls Try.prog 49 #[va] w fun e w' => e = .returned (.agg (a4 bs)) ∧ Below w.heap.size w w' := by
  have B0 := (Below.refl w.heap.size w).alloc (Nat.le_refl _) (.cells (cellsA false (List.replicate 16 0)) 27)
  have C := Lib.hid (rfrom_ok va false bs _ (hr.below B0) (.inl ⟨h, rfl⟩))
  have HN := Lib.hid (Blk.new w 27 (cellsA false (List.replicate 16 0)))
  have HB := Lib.hid B0
  have hsz := a4_size bs (by omega)
  have hal := a4_all bs
  have e : adr false (bs ++ List.replicate (16 - bs.length) 0) = .agg (a4 bs) := rfl
  rw [e] at C
  obtain ⟨a, cap, rfl, -, -⟩ := rd_shape hr
  generalize a4 bs = c at *
  rw [h] at *
  have Z := Lib.hid (i24.trans (congrArg some hsz.symm))
  have Z0 := Lib.hid (hsz.trans (cellsA_size false (List.replicate 16 0)).symm)
  have Z9 : Hid (c.size = Array.size (Zc17 : Array Value)) := hsz
  have A := Lib.hid hal
  clear hr h e hsz hal B0
  go_enter Try.func49, Try.ntmps49
  go_wp2_with fail
  refine C.out.mono ?_; rintro e W1 ⟨rfl, hb⟩
  have N1 := Lib.hid (HN.out.below hb HN.out.lt)
  have K1 := Lib.hid (HB.out.trans (hb.mono HB.out.size))
  clear hb HN HB C
  go_wp2_with (((with_reducible refine wpList_blk_store (op := ⟨none, .store 27 (.tmp 3) (.tmp 8), _, _, _, _⟩) ?sg1 27 (.tmp 3) (.tmp 8) ?so1 (W1.heap.size) c ?sx1 ?sy1 (Blk.new W1 27 Zc17) Z9.out Z.out A.out ?_); (case sg1 => rfl); (case so1 => rfl); (case sx1 => rfl); (case sy1 => rfl)))
  intro W2 hA hF hB
  have K2 := Lib.hid ((K1.out.alloc K1.out.size (.cells (cellsA false (List.replicate 16 0)) 27)).trans (hB _ K1.out.size))
  have N2 := Lib.hid ((N1.out.alloc (.cells (cellsA false (List.replicate 16 0)) 27)).below (hB _ (Nat.le_refl _)) N1.out.lt)
  have A2 := Lib.hid hA
  clear hA hF hB K1 N1
  go_wp2_with (first
    | ((with_reducible refine wpList_blk_load (op := ⟨some 10, .load 27 (.tmp 3), _, _, _, _⟩) ?lg2 27 (.tmp 3) ?lo2 (W1.heap.size) ?lx2 _ A2.out Try.underlying27 ?ld2 Z.out ?_); (case lg2 => rfl); (case lo2 => rfl); (case lx2 => rfl); (case ld2 => rfl))
    | ((with_reducible refine wpList_blk_store (op := ⟨none, .store 27 (.tmp 2) (.tmp 10), _, _, _, _⟩) ?sg3 27 (.tmp 2) (.tmp 10) ?so3 (w.heap.size) c ?sx3 ?sy3 N2.out Z0.out Z.out A.out ?_); (case sg3 => rfl); (case so3 => rfl); (case sx3 => rfl); (case sy3 => rfl)))
  intro W3 hA hF hB
  have HA := Lib.hid hA
  have K3 := Lib.hid (K2.out.trans (hB _ (Nat.le_refl _)))
  clear hA hF hB
  go_wp2
  have hrun := run_blk_load (P := Try.prog) 27 w.heap.size _ HA.out Try.underlying27 rfl Z.out
  exact bodyPost_ret (results_cell 2 27 w.heap.size _ Try.results49 rfl hrun) rfl ⟨rfl, K3.out⟩
end Go.Proofs.Ytnpibdjfafpegaa
