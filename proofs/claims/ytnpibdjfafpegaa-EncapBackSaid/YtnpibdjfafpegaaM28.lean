/- Texts that the walks of this seat lean on, put together. -/
import Derived.BigFrame
import Derived.Test.YtnpibdjfafpegaaTk
import Derived.Test.YtnpibdjfafpegaaM15
import Derived.Test.YtnpibdjfafpegaaM22
import Derived.Test.YtnpibdjfafpegaaM23
import Derived.Test.YtnpibdjfafpegaaM26
import Derived.Test.YtnpibdjfafpegaaM27
namespace Go.Proofs.Ytnpibdjfafpegaa
open Go.RowKit
set_option maxRecDepth 100000 in
set_option maxHeartbeats 1000000 in
theorem rframe_net (v : Value) (zs : List Nat) (w : World) (hr : Rd w v (nus .u8 zs)) (hb : ∀ c ∈ zs, c < 256) (h : (net zs).2.2 ≠ 0) :
    Calls Try.prog 19 #[v] w fun e w' => e = .returned (.tuple #[.agg (vw zs), .int .i64 (rr zs : Nat)]) ∧ Below w.heap.size w w' := by
  have hrr : rr zs = (net zs).2.2 := by unfold rr; rw [if_pos h]
  have hv : vw zs = v0 := by unfold vw; rw [hrr, if_neg h]
  rw [hv, hrr]
  have CN := Lib.hid (fun W (h : Rd W v (nus .u8 zs)) => rnet_any v zs W h hb)
  have K := Lib.hid (Below.refl w.heap.size w)
  have HR := Lib.hid hr
  have Y0 : Hid (v0.size = Array.size (ZcV : Array Value)) := v0_size
  have Z0 := Lib.hid (i72.trans (congrArg some v0_size.symm))
  have A0 := Lib.hid v0_all
  obtain ⟨a, cap, rfl, -, -⟩ := rd_shape hr
  generalize (net zs).1 = at0 at *
  generalize (net zs).2.1 = kind at *
  generalize (net zs).2.2 = r at *
  generalize zs.length = n at *
  have g0 : ((r : Int) != 0) = true := by simp; omega
  clear hr hb h hv hrr
  go_enter Try.func19, Try.ntmps19
  have hal := (Below.refl w.heap.size w).alloc (Nat.le_refl _) (.cells ZcV 50)
  replace K := Lib.hid (K.out.trans (hal.mono K.out.size))
  have HV := Lib.hid (Blk.new w 50 ZcV)
  clear hal
  go_wp2_with fail
  have hzV1 : Hid ((w.alloc (.cells ZcV 50)).heap.size = w.heap.size + 1) := by show _ = _; simp only [World.size_alloc]
  generalize (w.alloc (.cells ZcV 50)) = V1 at *
  refine (CN.out _ (HR.out.below K.out)).mono ?_
  rintro e V2 ⟨rfl, hy⟩
  replace K := Lib.hid (K.out.trans (hy.mono K.out.size))
  replace HV := Lib.hid (HV.out.below hy HV.out.lt)
  clear hy
  go_wp2_with (((with_reducible refine wpList_blk_store (op := ⟨none, .store 50 (.tmp 2) (.tmp 18), _, _, _, _⟩) ?sg1 50 (.tmp 2) (.tmp 18) ?so1 (w.heap.size) v0 ?sx1 ?sy1 HV.out Y0.out Z0.out A0.out ?_); (case sg1 => rfl); (case so1 => rfl); (case sx1 => rfl); (case sy1 => rfl)))
  intro V3 hA hF hB
  replace K := Lib.hid (K.out.trans (hB _ (by omega)))
  replace HV := Lib.hid hA
  clear hA hF hB
  go_wp2
  have hrun := run_blk_load (P := Try.prog) 50 w.heap.size _ HV.out Try.underlying50 rfl Z0.out
  exact bodyPost_ret (results_cell_tmp 2 50 3 w.heap.size _ Try.results19 rfl hrun) rfl ⟨rfl, K.out⟩
theorem rframe_any (v : Value) (zs : List Nat) (w : World) (hr : Rd w v (nus .u8 zs)) (hb : ∀ c ∈ zs, c < 256) (hz : zs.length ≤ 3000) :
    Calls Try.prog 19 #[v] w fun e w' => e = .returned (.tuple #[.agg (vw zs), .int .i64 (rr zs : Nat)]) ∧ Below w.heap.size w w' := by
  by_cases h : (net zs).2.2 = 0
  · obtain ⟨-, -, hk⟩ := net_ok zs h
    rcases hk with hk | hk
    · exact rframe_four v zs (net zs).1 w hr hb hz (by rw [← hk, ← h])
    · exact rframe_six v zs (net zs).1 w hr hb hz (by rw [← hk, ← h])
  · exact rframe_net v zs w hr hb h
end Go.Proofs.Ytnpibdjfafpegaa
