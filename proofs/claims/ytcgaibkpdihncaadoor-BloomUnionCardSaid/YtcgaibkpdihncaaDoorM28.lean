/- Texts that the walks of this seat lean on, put together. -/
import Derived.StillTailTactics
import Derived.Deep.CutBlock
import Derived.Deep.DeepCutAuto
import Derived.LoopTactic
import Derived.Handy
import Derived.Test.YtcgaibkpdihncaaDoorTk
import Derived.Test.YtcgaibkpdihncaaDoorM23
import Derived.Test.YtcgaibkpdihncaaDoorM27
namespace Go.Proofs.YtcgaibkpdihncaaDoor
open Go.RowKit Go.Lib
set_option maxRecDepth 100000 in
set_option maxHeartbeats 4000000 in
theorem bits_no (k : Fl) (hk : k.Fit) (hv : vK k = false) (g : Nat) (w : World) :
    Calls Tryd.prog 37 #[.pointer (some ⟨g, 0, none⟩), .agg k.cs] w fun e w' => e = .returned (.slice none 0 0) ∧ Below w.heap.size w w' := by
  have K := Lib.hid (Below.refl w.heap.size w)
  have CR := Lib.hid (fun W => row_no k hk hv g W)
  obtain ⟨a0, a1, a18, a35, a36⟩ := fl_get k hk
  have G0 := Lib.hid a0
  have G1 := Lib.hid a1
  have G18 := Lib.hid a18
  have G35 := Lib.hid a35
  have G36 := Lib.hid a36
  have KP1 := Lib.hid (fl_src k)
  have KP2 := Lib.hid (fl_dst k hk)
  have IS := Lib.hid (fl_is k hk)
  have ID := Lib.hid (fl_id k hk)
  have IK := Lib.hid (fl_ik k hk)
  clear a0 a1 a18 a35 a36
  generalize k.cs = kc at *
  generalize cellsA k.sv k.S = S at *
  generalize cellsA k.dv k.D = D at *
  generalize k.p = p at *
  generalize k.sv = sv at *
  generalize k.dv = dv at *
  generalize k.sp = sp at *
  generalize k.dp = dp at *
  clear hk hv
  go_enter Tryd.func37, Tryd.ntmps37
  have hal := (Below.refl w.heap.size w).alloc (Nat.le_refl _) (.cells kc 43)
  replace K := Lib.hid (K.out.trans (hal.mono K.out.size))
  have N := Lib.hid (Blk.new w 43 kc)
  clear hal
  have L2 : (loadVar 43 ⟨w.heap.size, 0, none⟩).run Tryd.prog (w.alloc (.cells kc 43)) = .ok (.agg kc) (w.alloc (.cells kc 43)) := run_blk_load (P := Tryd.prog) 43 (w.heap.size) _ N.out Tryd.underlying43 rfl IK.out
  replace L2 := Lib.hid L2
  go_wp2_with (((with_reducible refine wpList_load_want (op := ⟨some 9, .load 43 (.tmp 3), _, _, _, _⟩) ?wg2 43 (.tmp 3) ?wo2 ⟨w.heap.size, 0, none⟩ ?wx2 (.agg kc) L2.out ?_); (case wg2 => rfl); (case wo2 => rfl); (case wx2 => rfl)))
  clear L2
  have hzV1 : Hid ((w.alloc (.cells kc 43)).heap.size = w.heap.size + 1) := by show _ = _; simp only [World.size_alloc]
  generalize (w.alloc (.cells kc 43)) = V1 at *
  refine (CR.out V1).mono ?_
  rintro e V2 ⟨rfl, hy⟩
  replace K := Lib.hid (K.out.trans (hy.mono K.out.size))
  replace N := Lib.hid (N.out.below hy N.out.lt)
  clear hy
  have hqn := eqn_nil
  go_wp2
  go_ret
  exact ⟨rfl, K.out⟩
end Go.Proofs.YtcgaibkpdihncaaDoor
