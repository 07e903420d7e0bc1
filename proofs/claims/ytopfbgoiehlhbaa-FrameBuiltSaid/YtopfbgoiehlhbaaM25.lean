/- Texts that the walks of this seat lean on, put together: each has its own remark below. -/
import Derived.Test.YtopfbgoiehlhbaaM22

/- The walk of FrameBuilt. -/
namespace Go.Proofs.Ytopfbgoiehlhbaa
open Go.RowKit

theorem built_flow (six : Bool) (n s e f u : Nat) (v udp : Bool) : Try.prog.built 31 [(0, .bool six), (1, .int .i64 (n : Int)), (2, .int .i64 (s : Int)), (3, .int .i64 (e : Int)), (4, .agg (flow u v udp)), (5, .int .u8 (f : Int))] = some (vcells six n s e (flow u v udp) f) :=
  built_view six n s e f _ _ _ _ _ (by rw [cellsA_size, sV_len]) (by rw [cellsA_size, dV_len])

set_option maxRecDepth 100000 in
set_option maxHeartbeats 4000000 in
theorem built_fff (n : Int) (f : Nat) (a : Option Addr) (la ca : Nat) (zs : List Nat) (bare : Bool) (pad : Nat) (w : World) (hr : Rd w (.slice a la ca) (nus .u8 zs)) (hL : zs.length = la) (hna : a = none → ca = 0) (hb : ∀ c ∈ zs, c < 256) (hla : la ≤ 500) (hf : f < 256) (hpad : pad ≤ 50) :
    Calls Try.prog 4 #[.int .i64 n, .bool false, .bool false, .int .u8 (f : Int), .slice a la ca, .bool false, .bool bare, .int .i64 (pad : Int)] w fun e w' => e = .returned (.bool true) ∧ Below w.heap.size w w' := by
  obtain ⟨u, hu⟩ : ∃ u, u = (n % 1073741824).toNat := ⟨_, rfl⟩
  have CK := Lib.hid (fun W => flow_any n false false W)
  rw [← hu] at CK
  have CB := Lib.hid (fun W (h : Rd W (.slice a la ca) (nus .u8 zs)) => fB8_any u false false f pad a la ca zs false bare W h hL hna hb (by omega) hf (by omega))
  have T := fB8_told u false false f zs false bare (List.replicate pad 0) (by omega)
  have hlt := fB8_lt u false false f zs false bare pad hf hb
  generalize fB8 u false false f zs false bare (List.replicate pad 0) = F at *
  have hlen : F.length = 54 + la + pad := by
    have := T.len; rw [List.length_replicate, hL] at this
    show F.length = _
    rw [this]; show 14 + 20 + (20 + la) + pad = _; omega
  have CR := Lib.hid (fun W z (h : Rd W z (nus .u8 F)) => fread_any z F W h hlt (.inl (by omega)))
  rw [T.rr] at CR
  have CG := Lib.hid (fun W z (h : Rd W z (nus .u8 F)) => fgood_any z F W h hlt (by omega))
  rw [T.gf] at CG
  have QV := fun W => eq_vw F hlt (by omega) W
  have hvw : vw F = vcells false 14 34 (34 + (20 + la)) (flow u false false) f := by have := T.vw; rw [hL] at this; exact this
  rw [show 34 + (20 + la) = 54 + la by omega] at hvw
  have zk := flow_size u false false
  have Ak := Lib.hid (flow_all u false false)
  have zv := vw_size F
  have Av := Lib.hid (vw_all F)
  obtain ⟨en, hen⟩ : ∃ x, x = 54 + la := ⟨_, rfl⟩
  rw [← hen] at hvw
  have BV := Lib.hid ((built_flow false 14 34 en f u false false).trans (congrArg some hvw.symm))
  have H3 := Lib.hid (show (vw F)[3]? = some (.int .i64 (en : Int)) from by rw [hvw]; rfl)
  have HFL := Lib.hid (show F.length = en + pad by omega)
  generalize flow u false false = kc at *
  generalize vw F = VA at *
  have Zk := Lib.hid (i43.trans (congrArg some zk.symm))
  have Yk : Hid (kc.size = Array.size (#[Value.int .u8 0, .bool false, .int .u8 0, .int .u8 0, .int .u8 0, .int .u8 0, .int .u8 0, .int .u8 0, .int .u8 0, .int .u8 0, .int .u8 0, .int .u8 0, .int .u8 0, .int .u8 0, .int .u8 0, .int .u8 0, .int .u8 0, .int .u8 0, .bool false, .int .u8 0, .int .u8 0, .int .u8 0, .int .u8 0, .int .u8 0, .int .u8 0, .int .u8 0, .int .u8 0, .int .u8 0, .int .u8 0, .int .u8 0, .int .u8 0, .int .u8 0, .int .u8 0, .int .u8 0, .int .u8 0, .int .u16 0, .int .u16 0] : Array Value)) := zk
  have Zv := Lib.hid (i72.trans (congrArg some zv.symm))
  have Yv : Hid (VA.size = Array.size (#[Value.bool false, .int .i64 0, .int .i64 0, .int .i64 0, .int .u8 0, .bool false, .int .u8 0, .int .u8 0, .int .u8 0, .int .u8 0, .int .u8 0, .int .u8 0, .int .u8 0, .int .u8 0, .int .u8 0, .int .u8 0, .int .u8 0, .int .u8 0, .int .u8 0, .int .u8 0, .int .u8 0, .int .u8 0, .bool false, .int .u8 0, .int .u8 0, .int .u8 0, .int .u8 0, .int .u8 0, .int .u8 0, .int .u8 0, .int .u8 0, .int .u8 0, .int .u8 0, .int .u8 0, .int .u8 0, .int .u8 0, .int .u8 0, .int .u8 0, .int .u8 0, .int .u16 0, .int .u16 0, .int .u8 0] : Array Value)) := zv
  have wa := Lib.hid (show IntKind.i64.wrap (54 + (la : Int)) = (en : Int) by rw [IntKind.wrap_i64]; omega)
  obtain ⟨m, hm⟩ : ∃ m, m = F.length := ⟨_, rfl⟩
  have wb := Lib.hid (show IntKind.i64.wrap ((en : Int) + (pad : Int)) = (m : Int) by rw [IntKind.wrap_i64]; omega)
  rw [← hm] at CB
  have K := Lib.hid (Below.refl w.heap.size w)
  have HR := Lib.hid hr
  have hd1 : decide ((500 : Int) < (la : Int)) = false := decide_eq_false (by omega)
  have hd2 : decide ((pad : Int) < 0) = false := decide_eq_false (by omega)
  have hd3 : decide ((50 : Int) < (pad : Int)) = false := decide_eq_false (by omega)
  clear T hlt hlen hvw zk zv hen hu hr hm hL hna hb
  go_enter Try.func4, Try.ntmps4
  go_wp2_with fail
  refine (CK.out _).mono ?_
  rintro e V1 ⟨rfl, hy⟩
  replace K := Lib.hid (K.out.trans (hy.mono K.out.size))
  clear hy
  go_wp2_with (((with_reducible refine wpList_blk_store (op := ⟨none, .store 29 (.tmp 17) (.tmp 39), _, _, _, _⟩) ?sg1 29 (.tmp 17) (.tmp 39) ?so1 (V1.heap.size) kc ?sx1 ?sy1 (Blk.new V1 29 #[Value.int .u8 0, .bool false, .int .u8 0, .int .u8 0, .int .u8 0, .int .u8 0, .int .u8 0, .int .u8 0, .int .u8 0, .int .u8 0, .int .u8 0, .int .u8 0, .int .u8 0, .int .u8 0, .int .u8 0, .int .u8 0, .int .u8 0, .int .u8 0, .bool false, .int .u8 0, .int .u8 0, .int .u8 0, .int .u8 0, .int .u8 0, .int .u8 0, .int .u8 0, .int .u8 0, .int .u8 0, .int .u8 0, .int .u8 0, .int .u8 0, .int .u8 0, .int .u8 0, .int .u8 0, .int .u8 0, .int .u16 0, .int .u16 0]) Yk.out Zk.out Ak.out ?_); (case sg1 => rfl); (case so1 => rfl); (case sx1 => rfl); (case sy1 => rfl)))
  intro V2 hA hF hB
  have hy := ((Below.refl V1.heap.size V1).alloc (Nat.le_refl _) (.cells #[Value.int .u8 0, .bool false, .int .u8 0, .int .u8 0, .int .u8 0, .int .u8 0, .int .u8 0, .int .u8 0, .int .u8 0, .int .u8 0, .int .u8 0, .int .u8 0, .int .u8 0, .int .u8 0, .int .u8 0, .int .u8 0, .int .u8 0, .int .u8 0, .bool false, .int .u8 0, .int .u8 0, .int .u8 0, .int .u8 0, .int .u8 0, .int .u8 0, .int .u8 0, .int .u8 0, .int .u8 0, .int .u8 0, .int .u8 0, .int .u8 0, .int .u8 0, .int .u8 0, .int .u8 0, .int .u8 0, .int .u16 0, .int .u16 0] 29)).trans (hB _ (Nat.le_refl _))
  replace K := Lib.hid (K.out.trans (hy.mono K.out.size))
  have NK := Lib.hid hA
  clear hA hF hB hy
  clear hd1 hd2 hd3
  have L2 : (loadVar 29 ⟨V1.heap.size, 0, none⟩).run Try.prog V2 = .ok (.agg kc) V2 := run_blk_load (P := Try.prog) 29 (V1.heap.size) _ NK.out Try.underlying29 rfl Zk.out
  replace L2 := Lib.hid L2
  go_wp2_with (((with_reducible refine wpList_load_want (op := ⟨some 40, .load 29 (.tmp 17), _, _, _, _⟩) ?wg2 29 (.tmp 17) ?wo2 ⟨V1.heap.size, 0, none⟩ ?wx2 (.agg kc) L2.out ?_); (case wg2 => rfl); (case wo2 => rfl); (case wx2 => rfl)))
  clear L2
  refine (CB.out _ (HR.out.below K.out)).mono ?_
  rintro e V3 ⟨g, c, rfl, ho, hy⟩
  replace K := Lib.hid (K.out.trans (hy.mono K.out.size))
  replace NK := Lib.hid (NK.out.below hy NK.out.lt)
  have R := Lib.hid (Rd.own ho)
  clear ho
  clear hy
  go_wp2_with fail
  refine (CR.out _ _ R.out).mono ?_
  rintro e V4 ⟨rfl, hy⟩
  replace K := Lib.hid (K.out.trans (hy.mono K.out.size))
  replace NK := Lib.hid (NK.out.below hy NK.out.lt)
  replace R := Lib.hid (R.out.below hy)
  clear hy
  go_wp2_with (((with_reducible refine wpList_blk_store (op := ⟨none, .store 31 (.tmp 19) (.tmp 50), _, _, _, _⟩) ?sg3 31 (.tmp 19) (.tmp 50) ?so3 (V4.heap.size) VA ?sx3 ?sy3 (Blk.new V4 31 #[Value.bool false, .int .i64 0, .int .i64 0, .int .i64 0, .int .u8 0, .bool false, .int .u8 0, .int .u8 0, .int .u8 0, .int .u8 0, .int .u8 0, .int .u8 0, .int .u8 0, .int .u8 0, .int .u8 0, .int .u8 0, .int .u8 0, .int .u8 0, .int .u8 0, .int .u8 0, .int .u8 0, .int .u8 0, .bool false, .int .u8 0, .int .u8 0, .int .u8 0, .int .u8 0, .int .u8 0, .int .u8 0, .int .u8 0, .int .u8 0, .int .u8 0, .int .u8 0, .int .u8 0, .int .u8 0, .int .u8 0, .int .u8 0, .int .u8 0, .int .u8 0, .int .u16 0, .int .u16 0, .int .u8 0]) Yv.out Zv.out Av.out ?_); (case sg3 => rfl); (case so3 => rfl); (case sx3 => rfl); (case sy3 => rfl)))
  have qNKHX : V1.heap.size < V4.heap.size := NK.out.lt
  intro V5 hA hF hB
  have hy := ((Below.refl V4.heap.size V4).alloc (Nat.le_refl _) (.cells #[Value.bool false, .int .i64 0, .int .i64 0, .int .i64 0, .int .u8 0, .bool false, .int .u8 0, .int .u8 0, .int .u8 0, .int .u8 0, .int .u8 0, .int .u8 0, .int .u8 0, .int .u8 0, .int .u8 0, .int .u8 0, .int .u8 0, .int .u8 0, .int .u8 0, .int .u8 0, .int .u8 0, .int .u8 0, .bool false, .int .u8 0, .int .u8 0, .int .u8 0, .int .u8 0, .int .u8 0, .int .u8 0, .int .u8 0, .int .u8 0, .int .u8 0, .int .u8 0, .int .u8 0, .int .u8 0, .int .u8 0, .int .u8 0, .int .u8 0, .int .u8 0, .int .u16 0, .int .u16 0, .int .u8 0] 31)).trans (hB _ (Nat.le_refl _))
  replace K := Lib.hid (K.out.trans (hy.mono K.out.size))
  replace NK := Lib.hid (NK.out.below hy NK.out.lt)
  replace R := Lib.hid (R.out.below hy)
  have HX := Lib.hid hA
  clear hA hF hB hy
  have wa1 := wa.out
  have wb1 := wb.out
  have L4 : (loadVar 31 ⟨V4.heap.size, 0, none⟩).run Try.prog V5 = .ok (.agg VA) V5 := run_blk_load (P := Try.prog) 31 (V4.heap.size) _ HX.out Try.underlying31 rfl Zv.out
  replace L4 := Lib.hid L4
  have L5 : (loadVar 29 ⟨V1.heap.size, 0, none⟩).run Try.prog V5 = .ok (.agg kc) V5 := run_blk_load (P := Try.prog) 29 (V1.heap.size) _ NK.out Try.underlying29 rfl Zk.out
  replace L5 := Lib.hid L5
  go_wp2_with (first | ((with_reducible refine wpList_load_want (op := ⟨some 58, .load 31 (.tmp 19), _, _, _, _⟩) ?wg4 31 (.tmp 19) ?wo4 ⟨V4.heap.size, 0, none⟩ ?wx4 (.agg VA) L4.out ?_); (case wg4 => rfl); (case wo4 => rfl); (case wx4 => rfl)) | ((with_reducible refine wpList_load_want (op := ⟨some 72, .load 29 (.tmp 17), _, _, _, _⟩) ?wg5 29 (.tmp 17) ?wo5 ⟨V1.heap.size, 0, none⟩ ?wx5 (.agg kc) L5.out ?_); (case wg5 => rfl); (case wo5 => rfl); (case wx5 => rfl)) | ((with_reducible refine wpList_built2 (op := ⟨some 74, .build 31 #[(0, Operand.tmp 59), (1, Operand.tmp 60), (2, Operand.tmp 63), (3, Operand.tmp 71), (4, Operand.tmp 72), (5, Operand.tmp 73)], _, _, _, _⟩) ?wg74 31 #[(0, Operand.tmp 59), (1, Operand.tmp 60), (2, Operand.tmp 63), (3, Operand.tmp 71), (4, Operand.tmp 72), (5, Operand.tmp 73)] ?wo74 #[(0, .bool false), (1, .int .i64 14), (2, .int .i64 34), (3, .int .i64 (en : Int)), (4, .agg kc), (5, .int .u8 (f : Int))] ?wv74 VA ?wf74 ?_); (case wg74 => rfl); (case wo74 => rfl); (case wv74 => kernel_rfl); (case wf74 => exact BV.out)))
  clear L4 L5
  refine (CG.out _ _ R.out).mono ?_
  rintro e V6 ⟨rfl, hy⟩
  replace K := Lib.hid (K.out.trans (hy.mono K.out.size))
  replace NK := Lib.hid (NK.out.below hy NK.out.lt)
  replace R := Lib.hid (R.out.below hy)
  replace HX := Lib.hid (HX.out.below hy HX.out.lt)
  clear hy
  have L6 := (HX.out.cell 3).trans H3.out
  go_wp2_with fail
  clear L6
  refine (awake_any _).mono ?_
  rintro e V7 ⟨rfl, hy⟩
  replace K := Lib.hid (K.out.trans (hy.mono K.out.size))
  replace NK := Lib.hid (NK.out.below hy NK.out.lt)
  replace R := Lib.hid (R.out.below hy)
  replace HX := Lib.hid (HX.out.below hy HX.out.lt)
  clear hy
  go_wp2
  go_ret
  exact ⟨rfl, K.out⟩

set_option maxRecDepth 100000 in
set_option maxHeartbeats 4000000 in
theorem built_fft (n : Int) (f : Nat) (a : Option Addr) (la ca : Nat) (zs : List Nat) (bare : Bool) (pad : Nat) (w : World) (hr : Rd w (.slice a la ca) (nus .u8 zs)) (hL : zs.length = la) (hna : a = none → ca = 0) (hb : ∀ c ∈ zs, c < 256) (hla : la ≤ 500) (hf : f < 256) (hpad : pad ≤ 50) :
    Calls Try.prog 4 #[.int .i64 n, .bool false, .bool true, .int .u8 (f : Int), .slice a la ca, .bool false, .bool bare, .int .i64 (pad : Int)] w fun e w' => e = .returned (.bool true) ∧ Below w.heap.size w w' := by
  obtain ⟨u, hu⟩ : ∃ u, u = (n % 1073741824).toNat := ⟨_, rfl⟩
  have CK := Lib.hid (fun W => flow_any n false true W)
  rw [← hu] at CK
  have CB := Lib.hid (fun W (h : Rd W (.slice a la ca) (nus .u8 zs)) => fB8_any u false true f pad a la ca zs false bare W h hL hna hb (by omega) hf (by omega))
  have T := fB8_told u false true f zs false bare (List.replicate pad 0) (by omega)
  have hlt := fB8_lt u false true f zs false bare pad hf hb
  generalize fB8 u false true f zs false bare (List.replicate pad 0) = F at *
  have hlen : F.length = 42 + la + pad := by
    have := T.len; rw [List.length_replicate, hL] at this
    show F.length = _
    rw [this]; show 14 + 20 + (8 + la) + pad = _; omega
  have CR := Lib.hid (fun W z (h : Rd W z (nus .u8 F)) => fread_any z F W h hlt (.inl (by omega)))
  rw [T.rr] at CR
  have CG := Lib.hid (fun W z (h : Rd W z (nus .u8 F)) => fgood_any z F W h hlt (by omega))
  rw [T.gf] at CG
  have QV := fun W => eq_vw F hlt (by omega) W
  have hvw : vw F = vcells false 14 34 (34 + (8 + la)) (flow u false true) 0 := by have := T.vw; rw [hL] at this; exact this
  rw [show 34 + (8 + la) = 42 + la by omega] at hvw
  have zk := flow_size u false true
  have Ak := Lib.hid (flow_all u false true)
  have zv := vw_size F
  have Av := Lib.hid (vw_all F)
  obtain ⟨en, hen⟩ : ∃ x, x = 42 + la := ⟨_, rfl⟩
  rw [← hen] at hvw
  have BV := Lib.hid ((built_flow false 14 34 en 0 u false true).trans (congrArg some hvw.symm))
  have H3 := Lib.hid (show (vw F)[3]? = some (.int .i64 (en : Int)) from by rw [hvw]; rfl)
  have HFL := Lib.hid (show F.length = en + pad by omega)
  generalize flow u false true = kc at *
  generalize vw F = VA at *
  have Zk := Lib.hid (i43.trans (congrArg some zk.symm))
  have Yk : Hid (kc.size = Array.size (#[Value.int .u8 0, .bool false, .int .u8 0, .int .u8 0, .int .u8 0, .int .u8 0, .int .u8 0, .int .u8 0, .int .u8 0, .int .u8 0, .int .u8 0, .int .u8 0, .int .u8 0, .int .u8 0, .int .u8 0, .int .u8 0, .int .u8 0, .int .u8 0, .bool false, .int .u8 0, .int .u8 0, .int .u8 0, .int .u8 0, .int .u8 0, .int .u8 0, .int .u8 0, .int .u8 0, .int .u8 0, .int .u8 0, .int .u8 0, .int .u8 0, .int .u8 0, .int .u8 0, .int .u8 0, .int .u8 0, .int .u16 0, .int .u16 0] : Array Value)) := zk
  have Zv := Lib.hid (i72.trans (congrArg some zv.symm))
  have Yv : Hid (VA.size = Array.size (#[Value.bool false, .int .i64 0, .int .i64 0, .int .i64 0, .int .u8 0, .bool false, .int .u8 0, .int .u8 0, .int .u8 0, .int .u8 0, .int .u8 0, .int .u8 0, .int .u8 0, .int .u8 0, .int .u8 0, .int .u8 0, .int .u8 0, .int .u8 0, .int .u8 0, .int .u8 0, .int .u8 0, .int .u8 0, .bool false, .int .u8 0, .int .u8 0, .int .u8 0, .int .u8 0, .int .u8 0, .int .u8 0, .int .u8 0, .int .u8 0, .int .u8 0, .int .u8 0, .int .u8 0, .int .u8 0, .int .u8 0, .int .u8 0, .int .u8 0, .int .u8 0, .int .u16 0, .int .u16 0, .int .u8 0] : Array Value)) := zv
  have wa := Lib.hid (show IntKind.i64.wrap (42 + (la : Int)) = (en : Int) by rw [IntKind.wrap_i64]; omega)
  obtain ⟨m, hm⟩ : ∃ m, m = F.length := ⟨_, rfl⟩
  have wb := Lib.hid (show IntKind.i64.wrap ((en : Int) + (pad : Int)) = (m : Int) by rw [IntKind.wrap_i64]; omega)
  rw [← hm] at CB
  have K := Lib.hid (Below.refl w.heap.size w)
  have HR := Lib.hid hr
  have hd1 : decide ((500 : Int) < (la : Int)) = false := decide_eq_false (by omega)
  have hd2 : decide ((pad : Int) < 0) = false := decide_eq_false (by omega)
  have hd3 : decide ((50 : Int) < (pad : Int)) = false := decide_eq_false (by omega)
  clear T hlt hlen hvw zk zv hen hu hr hm hL hna hb
  go_enter Try.func4, Try.ntmps4
  go_wp2_with fail
  refine (CK.out _).mono ?_
  rintro e V1 ⟨rfl, hy⟩
  replace K := Lib.hid (K.out.trans (hy.mono K.out.size))
  clear hy
  go_wp2_with (((with_reducible refine wpList_blk_store (op := ⟨none, .store 29 (.tmp 17) (.tmp 39), _, _, _, _⟩) ?sg7 29 (.tmp 17) (.tmp 39) ?so7 (V1.heap.size) kc ?sx7 ?sy7 (Blk.new V1 29 #[Value.int .u8 0, .bool false, .int .u8 0, .int .u8 0, .int .u8 0, .int .u8 0, .int .u8 0, .int .u8 0, .int .u8 0, .int .u8 0, .int .u8 0, .int .u8 0, .int .u8 0, .int .u8 0, .int .u8 0, .int .u8 0, .int .u8 0, .int .u8 0, .bool false, .int .u8 0, .int .u8 0, .int .u8 0, .int .u8 0, .int .u8 0, .int .u8 0, .int .u8 0, .int .u8 0, .int .u8 0, .int .u8 0, .int .u8 0, .int .u8 0, .int .u8 0, .int .u8 0, .int .u8 0, .int .u8 0, .int .u16 0, .int .u16 0]) Yk.out Zk.out Ak.out ?_); (case sg7 => rfl); (case so7 => rfl); (case sx7 => rfl); (case sy7 => rfl)))
  intro V2 hA hF hB
  have hy := ((Below.refl V1.heap.size V1).alloc (Nat.le_refl _) (.cells #[Value.int .u8 0, .bool false, .int .u8 0, .int .u8 0, .int .u8 0, .int .u8 0, .int .u8 0, .int .u8 0, .int .u8 0, .int .u8 0, .int .u8 0, .int .u8 0, .int .u8 0, .int .u8 0, .int .u8 0, .int .u8 0, .int .u8 0, .int .u8 0, .bool false, .int .u8 0, .int .u8 0, .int .u8 0, .int .u8 0, .int .u8 0, .int .u8 0, .int .u8 0, .int .u8 0, .int .u8 0, .int .u8 0, .int .u8 0, .int .u8 0, .int .u8 0, .int .u8 0, .int .u8 0, .int .u8 0, .int .u16 0, .int .u16 0] 29)).trans (hB _ (Nat.le_refl _))
  replace K := Lib.hid (K.out.trans (hy.mono K.out.size))
  have NK := Lib.hid hA
  clear hA hF hB hy
  clear hd1 hd2 hd3
  have L8 : (loadVar 29 ⟨V1.heap.size, 0, none⟩).run Try.prog V2 = .ok (.agg kc) V2 := run_blk_load (P := Try.prog) 29 (V1.heap.size) _ NK.out Try.underlying29 rfl Zk.out
  replace L8 := Lib.hid L8
  go_wp2_with (((with_reducible refine wpList_load_want (op := ⟨some 40, .load 29 (.tmp 17), _, _, _, _⟩) ?wg8 29 (.tmp 17) ?wo8 ⟨V1.heap.size, 0, none⟩ ?wx8 (.agg kc) L8.out ?_); (case wg8 => rfl); (case wo8 => rfl); (case wx8 => rfl)))
  clear L8
  refine (CB.out _ (HR.out.below K.out)).mono ?_
  rintro e V3 ⟨g, c, rfl, ho, hy⟩
  replace K := Lib.hid (K.out.trans (hy.mono K.out.size))
  replace NK := Lib.hid (NK.out.below hy NK.out.lt)
  have R := Lib.hid (Rd.own ho)
  clear ho
  clear hy
  go_wp2_with fail
  refine (CR.out _ _ R.out).mono ?_
  rintro e V4 ⟨rfl, hy⟩
  replace K := Lib.hid (K.out.trans (hy.mono K.out.size))
  replace NK := Lib.hid (NK.out.below hy NK.out.lt)
  replace R := Lib.hid (R.out.below hy)
  clear hy
  go_wp2_with (((with_reducible refine wpList_blk_store (op := ⟨none, .store 31 (.tmp 19) (.tmp 50), _, _, _, _⟩) ?sg9 31 (.tmp 19) (.tmp 50) ?so9 (V4.heap.size) VA ?sx9 ?sy9 (Blk.new V4 31 #[Value.bool false, .int .i64 0, .int .i64 0, .int .i64 0, .int .u8 0, .bool false, .int .u8 0, .int .u8 0, .int .u8 0, .int .u8 0, .int .u8 0, .int .u8 0, .int .u8 0, .int .u8 0, .int .u8 0, .int .u8 0, .int .u8 0, .int .u8 0, .int .u8 0, .int .u8 0, .int .u8 0, .int .u8 0, .bool false, .int .u8 0, .int .u8 0, .int .u8 0, .int .u8 0, .int .u8 0, .int .u8 0, .int .u8 0, .int .u8 0, .int .u8 0, .int .u8 0, .int .u8 0, .int .u8 0, .int .u8 0, .int .u8 0, .int .u8 0, .int .u8 0, .int .u16 0, .int .u16 0, .int .u8 0]) Yv.out Zv.out Av.out ?_); (case sg9 => rfl); (case so9 => rfl); (case sx9 => rfl); (case sy9 => rfl)))
  have qNKHX : V1.heap.size < V4.heap.size := NK.out.lt
  intro V5 hA hF hB
  have hy := ((Below.refl V4.heap.size V4).alloc (Nat.le_refl _) (.cells #[Value.bool false, .int .i64 0, .int .i64 0, .int .i64 0, .int .u8 0, .bool false, .int .u8 0, .int .u8 0, .int .u8 0, .int .u8 0, .int .u8 0, .int .u8 0, .int .u8 0, .int .u8 0, .int .u8 0, .int .u8 0, .int .u8 0, .int .u8 0, .int .u8 0, .int .u8 0, .int .u8 0, .int .u8 0, .bool false, .int .u8 0, .int .u8 0, .int .u8 0, .int .u8 0, .int .u8 0, .int .u8 0, .int .u8 0, .int .u8 0, .int .u8 0, .int .u8 0, .int .u8 0, .int .u8 0, .int .u8 0, .int .u8 0, .int .u8 0, .int .u8 0, .int .u16 0, .int .u16 0, .int .u8 0] 31)).trans (hB _ (Nat.le_refl _))
  replace K := Lib.hid (K.out.trans (hy.mono K.out.size))
  replace NK := Lib.hid (NK.out.below hy NK.out.lt)
  replace R := Lib.hid (R.out.below hy)
  have HX := Lib.hid hA
  clear hA hF hB hy
  have wa1 := wa.out
  have wb1 := wb.out
  have L10 : (loadVar 31 ⟨V4.heap.size, 0, none⟩).run Try.prog V5 = .ok (.agg VA) V5 := run_blk_load (P := Try.prog) 31 (V4.heap.size) _ HX.out Try.underlying31 rfl Zv.out
  replace L10 := Lib.hid L10
  have L11 : (loadVar 29 ⟨V1.heap.size, 0, none⟩).run Try.prog V5 = .ok (.agg kc) V5 := run_blk_load (P := Try.prog) 29 (V1.heap.size) _ NK.out Try.underlying29 rfl Zk.out
  replace L11 := Lib.hid L11
  go_wp2_with (first | ((with_reducible refine wpList_load_want (op := ⟨some 58, .load 31 (.tmp 19), _, _, _, _⟩) ?wg10 31 (.tmp 19) ?wo10 ⟨V4.heap.size, 0, none⟩ ?wx10 (.agg VA) L10.out ?_); (case wg10 => rfl); (case wo10 => rfl); (case wx10 => rfl)) | ((with_reducible refine wpList_load_want (op := ⟨some 72, .load 29 (.tmp 17), _, _, _, _⟩) ?wg11 29 (.tmp 17) ?wo11 ⟨V1.heap.size, 0, none⟩ ?wx11 (.agg kc) L11.out ?_); (case wg11 => rfl); (case wo11 => rfl); (case wx11 => rfl)) | ((with_reducible refine wpList_built2 (op := ⟨some 74, .build 31 #[(0, Operand.tmp 59), (1, Operand.tmp 60), (2, Operand.tmp 63), (3, Operand.tmp 71), (4, Operand.tmp 72), (5, Operand.tmp 73)], _, _, _, _⟩) ?wg74 31 #[(0, Operand.tmp 59), (1, Operand.tmp 60), (2, Operand.tmp 63), (3, Operand.tmp 71), (4, Operand.tmp 72), (5, Operand.tmp 73)] ?wo74 #[(0, .bool false), (1, .int .i64 14), (2, .int .i64 34), (3, .int .i64 (en : Int)), (4, .agg kc), (5, .int .u8 0)] ?wv74 VA ?wf74 ?_); (case wg74 => rfl); (case wo74 => rfl); (case wv74 => kernel_rfl); (case wf74 => exact BV.out)))
  clear L10 L11
  refine (CG.out _ _ R.out).mono ?_
  rintro e V6 ⟨rfl, hy⟩
  replace K := Lib.hid (K.out.trans (hy.mono K.out.size))
  replace NK := Lib.hid (NK.out.below hy NK.out.lt)
  replace R := Lib.hid (R.out.below hy)
  replace HX := Lib.hid (HX.out.below hy HX.out.lt)
  clear hy
  have L12 := (HX.out.cell 3).trans H3.out
  go_wp2_with fail
  clear L12
  refine (awake_any _).mono ?_
  rintro e V7 ⟨rfl, hy⟩
  replace K := Lib.hid (K.out.trans (hy.mono K.out.size))
  replace NK := Lib.hid (NK.out.below hy NK.out.lt)
  replace R := Lib.hid (R.out.below hy)
  replace HX := Lib.hid (HX.out.below hy HX.out.lt)
  clear hy
  go_wp2
  go_ret
  exact ⟨rfl, K.out⟩

set_option maxRecDepth 100000 in
set_option maxHeartbeats 4000000 in
theorem built_ftf (n : Int) (f : Nat) (a : Option Addr) (la ca : Nat) (zs : List Nat) (bare : Bool) (pad : Nat) (w : World) (hr : Rd w (.slice a la ca) (nus .u8 zs)) (hL : zs.length = la) (hna : a = none → ca = 0) (hb : ∀ c ∈ zs, c < 256) (hla : la ≤ 500) (hf : f < 256) (hpad : pad ≤ 50) :
    Calls Try.prog 4 #[.int .i64 n, .bool true, .bool false, .int .u8 (f : Int), .slice a la ca, .bool false, .bool bare, .int .i64 (pad : Int)] w fun e w' => e = .returned (.bool true) ∧ Below w.heap.size w w' := by
  obtain ⟨u, hu⟩ : ∃ u, u = (n % 1073741824).toNat := ⟨_, rfl⟩
  have CK := Lib.hid (fun W => flow_any n true false W)
  rw [← hu] at CK
  have CB := Lib.hid (fun W (h : Rd W (.slice a la ca) (nus .u8 zs)) => fB8_any u true false f pad a la ca zs false bare W h hL hna hb (by omega) hf (by omega))
  have T := fB8_told u true false f zs false bare (List.replicate pad 0) (by omega)
  have hlt := fB8_lt u true false f zs false bare pad hf hb
  generalize fB8 u true false f zs false bare (List.replicate pad 0) = F at *
  have hlen : F.length = 74 + la + pad := by
    have := T.len; rw [List.length_replicate, hL] at this
    show F.length = _
    rw [this]; show 14 + 40 + (20 + la) + pad = _; omega
  have CR := Lib.hid (fun W z (h : Rd W z (nus .u8 F)) => fread_any z F W h hlt (.inl (by omega)))
  rw [T.rr] at CR
  have CG := Lib.hid (fun W z (h : Rd W z (nus .u8 F)) => fgood_any z F W h hlt (by omega))
  rw [T.gf] at CG
  have QV := fun W => eq_vw F hlt (by omega) W
  have hvw : vw F = vcells true 14 54 (54 + (20 + la)) (flow u true false) f := by have := T.vw; rw [hL] at this; exact this
  rw [show 54 + (20 + la) = 74 + la by omega] at hvw
  have zk := flow_size u true false
  have Ak := Lib.hid (flow_all u true false)
  have zv := vw_size F
  have Av := Lib.hid (vw_all F)
  obtain ⟨en, hen⟩ : ∃ x, x = 74 + la := ⟨_, rfl⟩
  rw [← hen] at hvw
  have BV := Lib.hid ((built_flow true 14 54 en f u true false).trans (congrArg some hvw.symm))
  have H3 := Lib.hid (show (vw F)[3]? = some (.int .i64 (en : Int)) from by rw [hvw]; rfl)
  have HFL := Lib.hid (show F.length = en + pad by omega)
  generalize flow u true false = kc at *
  generalize vw F = VA at *
  have Zk := Lib.hid (i43.trans (congrArg some zk.symm))
  have Yk : Hid (kc.size = Array.size (#[Value.int .u8 0, .bool false, .int .u8 0, .int .u8 0, .int .u8 0, .int .u8 0, .int .u8 0, .int .u8 0, .int .u8 0, .int .u8 0, .int .u8 0, .int .u8 0, .int .u8 0, .int .u8 0, .int .u8 0, .int .u8 0, .int .u8 0, .int .u8 0, .bool false, .int .u8 0, .int .u8 0, .int .u8 0, .int .u8 0, .int .u8 0, .int .u8 0, .int .u8 0, .int .u8 0, .int .u8 0, .int .u8 0, .int .u8 0, .int .u8 0, .int .u8 0, .int .u8 0, .int .u8 0, .int .u8 0, .int .u16 0, .int .u16 0] : Array Value)) := zk
  have Zv := Lib.hid (i72.trans (congrArg some zv.symm))
  have Yv : Hid (VA.size = Array.size (#[Value.bool false, .int .i64 0, .int .i64 0, .int .i64 0, .int .u8 0, .bool false, .int .u8 0, .int .u8 0, .int .u8 0, .int .u8 0, .int .u8 0, .int .u8 0, .int .u8 0, .int .u8 0, .int .u8 0, .int .u8 0, .int .u8 0, .int .u8 0, .int .u8 0, .int .u8 0, .int .u8 0, .int .u8 0, .bool false, .int .u8 0, .int .u8 0, .int .u8 0, .int .u8 0, .int .u8 0, .int .u8 0, .int .u8 0, .int .u8 0, .int .u8 0, .int .u8 0, .int .u8 0, .int .u8 0, .int .u8 0, .int .u8 0, .int .u8 0, .int .u8 0, .int .u16 0, .int .u16 0, .int .u8 0] : Array Value)) := zv
  have wa := Lib.hid (show IntKind.i64.wrap (74 + (la : Int)) = (en : Int) by rw [IntKind.wrap_i64]; omega)
  obtain ⟨m, hm⟩ : ∃ m, m = F.length := ⟨_, rfl⟩
  have wb := Lib.hid (show IntKind.i64.wrap ((en : Int) + (pad : Int)) = (m : Int) by rw [IntKind.wrap_i64]; omega)
  rw [← hm] at CB
  have K := Lib.hid (Below.refl w.heap.size w)
  have HR := Lib.hid hr
  have hd1 : decide ((500 : Int) < (la : Int)) = false := decide_eq_false (by omega)
  have hd2 : decide ((pad : Int) < 0) = false := decide_eq_false (by omega)
  have hd3 : decide ((50 : Int) < (pad : Int)) = false := decide_eq_false (by omega)
  clear T hlt hlen hvw zk zv hen hu hr hm hL hna hb
  go_enter Try.func4, Try.ntmps4
  go_wp2_with fail
  refine (CK.out _).mono ?_
  rintro e V1 ⟨rfl, hy⟩
  replace K := Lib.hid (K.out.trans (hy.mono K.out.size))
  clear hy
  go_wp2_with (((with_reducible refine wpList_blk_store (op := ⟨none, .store 29 (.tmp 17) (.tmp 39), _, _, _, _⟩) ?sg13 29 (.tmp 17) (.tmp 39) ?so13 (V1.heap.size) kc ?sx13 ?sy13 (Blk.new V1 29 #[Value.int .u8 0, .bool false, .int .u8 0, .int .u8 0, .int .u8 0, .int .u8 0, .int .u8 0, .int .u8 0, .int .u8 0, .int .u8 0, .int .u8 0, .int .u8 0, .int .u8 0, .int .u8 0, .int .u8 0, .int .u8 0, .int .u8 0, .int .u8 0, .bool false, .int .u8 0, .int .u8 0, .int .u8 0, .int .u8 0, .int .u8 0, .int .u8 0, .int .u8 0, .int .u8 0, .int .u8 0, .int .u8 0, .int .u8 0, .int .u8 0, .int .u8 0, .int .u8 0, .int .u8 0, .int .u8 0, .int .u16 0, .int .u16 0]) Yk.out Zk.out Ak.out ?_); (case sg13 => rfl); (case so13 => rfl); (case sx13 => rfl); (case sy13 => rfl)))
  intro V2 hA hF hB
  have hy := ((Below.refl V1.heap.size V1).alloc (Nat.le_refl _) (.cells #[Value.int .u8 0, .bool false, .int .u8 0, .int .u8 0, .int .u8 0, .int .u8 0, .int .u8 0, .int .u8 0, .int .u8 0, .int .u8 0, .int .u8 0, .int .u8 0, .int .u8 0, .int .u8 0, .int .u8 0, .int .u8 0, .int .u8 0, .int .u8 0, .bool false, .int .u8 0, .int .u8 0, .int .u8 0, .int .u8 0, .int .u8 0, .int .u8 0, .int .u8 0, .int .u8 0, .int .u8 0, .int .u8 0, .int .u8 0, .int .u8 0, .int .u8 0, .int .u8 0, .int .u8 0, .int .u8 0, .int .u16 0, .int .u16 0] 29)).trans (hB _ (Nat.le_refl _))
  replace K := Lib.hid (K.out.trans (hy.mono K.out.size))
  have NK := Lib.hid hA
  clear hA hF hB hy
  clear hd1 hd2 hd3
  have L14 : (loadVar 29 ⟨V1.heap.size, 0, none⟩).run Try.prog V2 = .ok (.agg kc) V2 := run_blk_load (P := Try.prog) 29 (V1.heap.size) _ NK.out Try.underlying29 rfl Zk.out
  replace L14 := Lib.hid L14
  go_wp2_with (((with_reducible refine wpList_load_want (op := ⟨some 40, .load 29 (.tmp 17), _, _, _, _⟩) ?wg14 29 (.tmp 17) ?wo14 ⟨V1.heap.size, 0, none⟩ ?wx14 (.agg kc) L14.out ?_); (case wg14 => rfl); (case wo14 => rfl); (case wx14 => rfl)))
  clear L14
  refine (CB.out _ (HR.out.below K.out)).mono ?_
  rintro e V3 ⟨g, c, rfl, ho, hy⟩
  replace K := Lib.hid (K.out.trans (hy.mono K.out.size))
  replace NK := Lib.hid (NK.out.below hy NK.out.lt)
  have R := Lib.hid (Rd.own ho)
  clear ho
  clear hy
  go_wp2_with fail
  refine (CR.out _ _ R.out).mono ?_
  rintro e V4 ⟨rfl, hy⟩
  replace K := Lib.hid (K.out.trans (hy.mono K.out.size))
  replace NK := Lib.hid (NK.out.below hy NK.out.lt)
  replace R := Lib.hid (R.out.below hy)
  clear hy
  go_wp2_with (((with_reducible refine wpList_blk_store (op := ⟨none, .store 31 (.tmp 19) (.tmp 50), _, _, _, _⟩) ?sg15 31 (.tmp 19) (.tmp 50) ?so15 (V4.heap.size) VA ?sx15 ?sy15 (Blk.new V4 31 #[Value.bool false, .int .i64 0, .int .i64 0, .int .i64 0, .int .u8 0, .bool false, .int .u8 0, .int .u8 0, .int .u8 0, .int .u8 0, .int .u8 0, .int .u8 0, .int .u8 0, .int .u8 0, .int .u8 0, .int .u8 0, .int .u8 0, .int .u8 0, .int .u8 0, .int .u8 0, .int .u8 0, .int .u8 0, .bool false, .int .u8 0, .int .u8 0, .int .u8 0, .int .u8 0, .int .u8 0, .int .u8 0, .int .u8 0, .int .u8 0, .int .u8 0, .int .u8 0, .int .u8 0, .int .u8 0, .int .u8 0, .int .u8 0, .int .u8 0, .int .u8 0, .int .u16 0, .int .u16 0, .int .u8 0]) Yv.out Zv.out Av.out ?_); (case sg15 => rfl); (case so15 => rfl); (case sx15 => rfl); (case sy15 => rfl)))
  have qNKHX : V1.heap.size < V4.heap.size := NK.out.lt
  intro V5 hA hF hB
  have hy := ((Below.refl V4.heap.size V4).alloc (Nat.le_refl _) (.cells #[Value.bool false, .int .i64 0, .int .i64 0, .int .i64 0, .int .u8 0, .bool false, .int .u8 0, .int .u8 0, .int .u8 0, .int .u8 0, .int .u8 0, .int .u8 0, .int .u8 0, .int .u8 0, .int .u8 0, .int .u8 0, .int .u8 0, .int .u8 0, .int .u8 0, .int .u8 0, .int .u8 0, .int .u8 0, .bool false, .int .u8 0, .int .u8 0, .int .u8 0, .int .u8 0, .int .u8 0, .int .u8 0, .int .u8 0, .int .u8 0, .int .u8 0, .int .u8 0, .int .u8 0, .int .u8 0, .int .u8 0, .int .u8 0, .int .u8 0, .int .u8 0, .int .u16 0, .int .u16 0, .int .u8 0] 31)).trans (hB _ (Nat.le_refl _))
  replace K := Lib.hid (K.out.trans (hy.mono K.out.size))
  replace NK := Lib.hid (NK.out.below hy NK.out.lt)
  replace R := Lib.hid (R.out.below hy)
  have HX := Lib.hid hA
  clear hA hF hB hy
  have wa1 := wa.out
  have wb1 := wb.out
  have L16 : (loadVar 31 ⟨V4.heap.size, 0, none⟩).run Try.prog V5 = .ok (.agg VA) V5 := run_blk_load (P := Try.prog) 31 (V4.heap.size) _ HX.out Try.underlying31 rfl Zv.out
  replace L16 := Lib.hid L16
  have L17 : (loadVar 29 ⟨V1.heap.size, 0, none⟩).run Try.prog V5 = .ok (.agg kc) V5 := run_blk_load (P := Try.prog) 29 (V1.heap.size) _ NK.out Try.underlying29 rfl Zk.out
  replace L17 := Lib.hid L17
  go_wp2_with (first | ((with_reducible refine wpList_load_want (op := ⟨some 58, .load 31 (.tmp 19), _, _, _, _⟩) ?wg16 31 (.tmp 19) ?wo16 ⟨V4.heap.size, 0, none⟩ ?wx16 (.agg VA) L16.out ?_); (case wg16 => rfl); (case wo16 => rfl); (case wx16 => rfl)) | ((with_reducible refine wpList_load_want (op := ⟨some 72, .load 29 (.tmp 17), _, _, _, _⟩) ?wg17 29 (.tmp 17) ?wo17 ⟨V1.heap.size, 0, none⟩ ?wx17 (.agg kc) L17.out ?_); (case wg17 => rfl); (case wo17 => rfl); (case wx17 => rfl)) | ((with_reducible refine wpList_built2 (op := ⟨some 74, .build 31 #[(0, Operand.tmp 59), (1, Operand.tmp 60), (2, Operand.tmp 63), (3, Operand.tmp 71), (4, Operand.tmp 72), (5, Operand.tmp 73)], _, _, _, _⟩) ?wg74 31 #[(0, Operand.tmp 59), (1, Operand.tmp 60), (2, Operand.tmp 63), (3, Operand.tmp 71), (4, Operand.tmp 72), (5, Operand.tmp 73)] ?wo74 #[(0, .bool true), (1, .int .i64 14), (2, .int .i64 54), (3, .int .i64 (en : Int)), (4, .agg kc), (5, .int .u8 (f : Int))] ?wv74 VA ?wf74 ?_); (case wg74 => rfl); (case wo74 => rfl); (case wv74 => kernel_rfl); (case wf74 => exact BV.out)))
  clear L16 L17
  refine (CG.out _ _ R.out).mono ?_
  rintro e V6 ⟨rfl, hy⟩
  replace K := Lib.hid (K.out.trans (hy.mono K.out.size))
  replace NK := Lib.hid (NK.out.below hy NK.out.lt)
  replace R := Lib.hid (R.out.below hy)
  replace HX := Lib.hid (HX.out.below hy HX.out.lt)
  clear hy
  have L18 := (HX.out.cell 3).trans H3.out
  go_wp2_with fail
  clear L18
  refine (awake_any _).mono ?_
  rintro e V7 ⟨rfl, hy⟩
  replace K := Lib.hid (K.out.trans (hy.mono K.out.size))
  replace NK := Lib.hid (NK.out.below hy NK.out.lt)
  replace R := Lib.hid (R.out.below hy)
  replace HX := Lib.hid (HX.out.below hy HX.out.lt)
  clear hy
  go_wp2
  go_ret
  exact ⟨rfl, K.out⟩

set_option maxRecDepth 100000 in
set_option maxHeartbeats 4000000 in
theorem built_ftt (n : Int) (f : Nat) (a : Option Addr) (la ca : Nat) (zs : List Nat) (bare : Bool) (pad : Nat) (w : World) (hr : Rd w (.slice a la ca) (nus .u8 zs)) (hL : zs.length = la) (hna : a = none → ca = 0) (hb : ∀ c ∈ zs, c < 256) (hla : la ≤ 500) (hf : f < 256) (hpad : pad ≤ 50) :
    Calls Try.prog 4 #[.int .i64 n, .bool true, .bool true, .int .u8 (f : Int), .slice a la ca, .bool false, .bool bare, .int .i64 (pad : Int)] w fun e w' => e = .returned (.bool true) ∧ Below w.heap.size w w' := by
  obtain ⟨u, hu⟩ : ∃ u, u = (n % 1073741824).toNat := ⟨_, rfl⟩
  have CK := Lib.hid (fun W => flow_any n true true W)
  rw [← hu] at CK
  have CB := Lib.hid (fun W (h : Rd W (.slice a la ca) (nus .u8 zs)) => fB8_any u true true f pad a la ca zs false bare W h hL hna hb (by omega) hf (by omega))
  have T := fB8_told u true true f zs false bare (List.replicate pad 0) (by omega)
  have hlt := fB8_lt u true true f zs false bare pad hf hb
  generalize fB8 u true true f zs false bare (List.replicate pad 0) = F at *
  have hlen : F.length = 62 + la + pad := by
    have := T.len; rw [List.length_replicate, hL] at this
    show F.length = _
    rw [this]; show 14 + 40 + (8 + la) + pad = _; omega
  have CR := Lib.hid (fun W z (h : Rd W z (nus .u8 F)) => fread_any z F W h hlt (.inl (by omega)))
  rw [T.rr] at CR
  have CG := Lib.hid (fun W z (h : Rd W z (nus .u8 F)) => fgood_any z F W h hlt (by omega))
  rw [T.gf] at CG
  have QV := fun W => eq_vw F hlt (by omega) W
  have hvw : vw F = vcells true 14 54 (54 + (8 + la)) (flow u true true) 0 := by have := T.vw; rw [hL] at this; exact this
  rw [show 54 + (8 + la) = 62 + la by omega] at hvw
  have zk := flow_size u true true
  have Ak := Lib.hid (flow_all u true true)
  have zv := vw_size F
  have Av := Lib.hid (vw_all F)
  obtain ⟨en, hen⟩ : ∃ x, x = 62 + la := ⟨_, rfl⟩
  rw [← hen] at hvw
  have BV := Lib.hid ((built_flow true 14 54 en 0 u true true).trans (congrArg some hvw.symm))
  have H3 := Lib.hid (show (vw F)[3]? = some (.int .i64 (en : Int)) from by rw [hvw]; rfl)
  have HFL := Lib.hid (show F.length = en + pad by omega)
  generalize flow u true true = kc at *
  generalize vw F = VA at *
  have Zk := Lib.hid (i43.trans (congrArg some zk.symm))
  have Yk : Hid (kc.size = Array.size (#[Value.int .u8 0, .bool false, .int .u8 0, .int .u8 0, .int .u8 0, .int .u8 0, .int .u8 0, .int .u8 0, .int .u8 0, .int .u8 0, .int .u8 0, .int .u8 0, .int .u8 0, .int .u8 0, .int .u8 0, .int .u8 0, .int .u8 0, .int .u8 0, .bool false, .int .u8 0, .int .u8 0, .int .u8 0, .int .u8 0, .int .u8 0, .int .u8 0, .int .u8 0, .int .u8 0, .int .u8 0, .int .u8 0, .int .u8 0, .int .u8 0, .int .u8 0, .int .u8 0, .int .u8 0, .int .u8 0, .int .u16 0, .int .u16 0] : Array Value)) := zk
  have Zv := Lib.hid (i72.trans (congrArg some zv.symm))
  have Yv : Hid (VA.size = Array.size (#[Value.bool false, .int .i64 0, .int .i64 0, .int .i64 0, .int .u8 0, .bool false, .int .u8 0, .int .u8 0, .int .u8 0, .int .u8 0, .int .u8 0, .int .u8 0, .int .u8 0, .int .u8 0, .int .u8 0, .int .u8 0, .int .u8 0, .int .u8 0, .int .u8 0, .int .u8 0, .int .u8 0, .int .u8 0, .bool false, .int .u8 0, .int .u8 0, .int .u8 0, .int .u8 0, .int .u8 0, .int .u8 0, .int .u8 0, .int .u8 0, .int .u8 0, .int .u8 0, .int .u8 0, .int .u8 0, .int .u8 0, .int .u8 0, .int .u8 0, .int .u8 0, .int .u16 0, .int .u16 0, .int .u8 0] : Array Value)) := zv
  have wa := Lib.hid (show IntKind.i64.wrap (62 + (la : Int)) = (en : Int) by rw [IntKind.wrap_i64]; omega)
  obtain ⟨m, hm⟩ : ∃ m, m = F.length := ⟨_, rfl⟩
  have wb := Lib.hid (show IntKind.i64.wrap ((en : Int) + (pad : Int)) = (m : Int) by rw [IntKind.wrap_i64]; omega)
  rw [← hm] at CB
  have K := Lib.hid (Below.refl w.heap.size w)
  have HR := Lib.hid hr
  have hd1 : decide ((500 : Int) < (la : Int)) = false := decide_eq_false (by omega)
  have hd2 : decide ((pad : Int) < 0) = false := decide_eq_false (by omega)
  have hd3 : decide ((50 : Int) < (pad : Int)) = false := decide_eq_false (by omega)
  clear T hlt hlen hvw zk zv hen hu hr hm hL hna hb
  go_enter Try.func4, Try.ntmps4
  go_wp2_with fail
  refine (CK.out _).mono ?_
  rintro e V1 ⟨rfl, hy⟩
  replace K := Lib.hid (K.out.trans (hy.mono K.out.size))
  clear hy
  go_wp2_with (((with_reducible refine wpList_blk_store (op := ⟨none, .store 29 (.tmp 17) (.tmp 39), _, _, _, _⟩) ?sg19 29 (.tmp 17) (.tmp 39) ?so19 (V1.heap.size) kc ?sx19 ?sy19 (Blk.new V1 29 #[Value.int .u8 0, .bool false, .int .u8 0, .int .u8 0, .int .u8 0, .int .u8 0, .int .u8 0, .int .u8 0, .int .u8 0, .int .u8 0, .int .u8 0, .int .u8 0, .int .u8 0, .int .u8 0, .int .u8 0, .int .u8 0, .int .u8 0, .int .u8 0, .bool false, .int .u8 0, .int .u8 0, .int .u8 0, .int .u8 0, .int .u8 0, .int .u8 0, .int .u8 0, .int .u8 0, .int .u8 0, .int .u8 0, .int .u8 0, .int .u8 0, .int .u8 0, .int .u8 0, .int .u8 0, .int .u8 0, .int .u16 0, .int .u16 0]) Yk.out Zk.out Ak.out ?_); (case sg19 => rfl); (case so19 => rfl); (case sx19 => rfl); (case sy19 => rfl)))
  intro V2 hA hF hB
  have hy := ((Below.refl V1.heap.size V1).alloc (Nat.le_refl _) (.cells #[Value.int .u8 0, .bool false, .int .u8 0, .int .u8 0, .int .u8 0, .int .u8 0, .int .u8 0, .int .u8 0, .int .u8 0, .int .u8 0, .int .u8 0, .int .u8 0, .int .u8 0, .int .u8 0, .int .u8 0, .int .u8 0, .int .u8 0, .int .u8 0, .bool false, .int .u8 0, .int .u8 0, .int .u8 0, .int .u8 0, .int .u8 0, .int .u8 0, .int .u8 0, .int .u8 0, .int .u8 0, .int .u8 0, .int .u8 0, .int .u8 0, .int .u8 0, .int .u8 0, .int .u8 0, .int .u8 0, .int .u16 0, .int .u16 0] 29)).trans (hB _ (Nat.le_refl _))
  replace K := Lib.hid (K.out.trans (hy.mono K.out.size))
  have NK := Lib.hid hA
  clear hA hF hB hy
  clear hd1 hd2 hd3
  have L20 : (loadVar 29 ⟨V1.heap.size, 0, none⟩).run Try.prog V2 = .ok (.agg kc) V2 := run_blk_load (P := Try.prog) 29 (V1.heap.size) _ NK.out Try.underlying29 rfl Zk.out
  replace L20 := Lib.hid L20
  go_wp2_with (((with_reducible refine wpList_load_want (op := ⟨some 40, .load 29 (.tmp 17), _, _, _, _⟩) ?wg20 29 (.tmp 17) ?wo20 ⟨V1.heap.size, 0, none⟩ ?wx20 (.agg kc) L20.out ?_); (case wg20 => rfl); (case wo20 => rfl); (case wx20 => rfl)))
  clear L20
  refine (CB.out _ (HR.out.below K.out)).mono ?_
  rintro e V3 ⟨g, c, rfl, ho, hy⟩
  replace K := Lib.hid (K.out.trans (hy.mono K.out.size))
  replace NK := Lib.hid (NK.out.below hy NK.out.lt)
  have R := Lib.hid (Rd.own ho)
  clear ho
  clear hy
  go_wp2_with fail
  refine (CR.out _ _ R.out).mono ?_
  rintro e V4 ⟨rfl, hy⟩
  replace K := Lib.hid (K.out.trans (hy.mono K.out.size))
  replace NK := Lib.hid (NK.out.below hy NK.out.lt)
  replace R := Lib.hid (R.out.below hy)
  clear hy
  go_wp2_with (((with_reducible refine wpList_blk_store (op := ⟨none, .store 31 (.tmp 19) (.tmp 50), _, _, _, _⟩) ?sg21 31 (.tmp 19) (.tmp 50) ?so21 (V4.heap.size) VA ?sx21 ?sy21 (Blk.new V4 31 #[Value.bool false, .int .i64 0, .int .i64 0, .int .i64 0, .int .u8 0, .bool false, .int .u8 0, .int .u8 0, .int .u8 0, .int .u8 0, .int .u8 0, .int .u8 0, .int .u8 0, .int .u8 0, .int .u8 0, .int .u8 0, .int .u8 0, .int .u8 0, .int .u8 0, .int .u8 0, .int .u8 0, .int .u8 0, .bool false, .int .u8 0, .int .u8 0, .int .u8 0, .int .u8 0, .int .u8 0, .int .u8 0, .int .u8 0, .int .u8 0, .int .u8 0, .int .u8 0, .int .u8 0, .int .u8 0, .int .u8 0, .int .u8 0, .int .u8 0, .int .u8 0, .int .u16 0, .int .u16 0, .int .u8 0]) Yv.out Zv.out Av.out ?_); (case sg21 => rfl); (case so21 => rfl); (case sx21 => rfl); (case sy21 => rfl)))
  have qNKHX : V1.heap.size < V4.heap.size := NK.out.lt
  intro V5 hA hF hB
  have hy := ((Below.refl V4.heap.size V4).alloc (Nat.le_refl _) (.cells #[Value.bool false, .int .i64 0, .int .i64 0, .int .i64 0, .int .u8 0, .bool false, .int .u8 0, .int .u8 0, .int .u8 0, .int .u8 0, .int .u8 0, .int .u8 0, .int .u8 0, .int .u8 0, .int .u8 0, .int .u8 0, .int .u8 0, .int .u8 0, .int .u8 0, .int .u8 0, .int .u8 0, .int .u8 0, .bool false, .int .u8 0, .int .u8 0, .int .u8 0, .int .u8 0, .int .u8 0, .int .u8 0, .int .u8 0, .int .u8 0, .int .u8 0, .int .u8 0, .int .u8 0, .int .u8 0, .int .u8 0, .int .u8 0, .int .u8 0, .int .u8 0, .int .u16 0, .int .u16 0, .int .u8 0] 31)).trans (hB _ (Nat.le_refl _))
  replace K := Lib.hid (K.out.trans (hy.mono K.out.size))
  replace NK := Lib.hid (NK.out.below hy NK.out.lt)
  replace R := Lib.hid (R.out.below hy)
  have HX := Lib.hid hA
  clear hA hF hB hy
  have wa1 := wa.out
  have wb1 := wb.out
  have L22 : (loadVar 31 ⟨V4.heap.size, 0, none⟩).run Try.prog V5 = .ok (.agg VA) V5 := run_blk_load (P := Try.prog) 31 (V4.heap.size) _ HX.out Try.underlying31 rfl Zv.out
  replace L22 := Lib.hid L22
  have L23 : (loadVar 29 ⟨V1.heap.size, 0, none⟩).run Try.prog V5 = .ok (.agg kc) V5 := run_blk_load (P := Try.prog) 29 (V1.heap.size) _ NK.out Try.underlying29 rfl Zk.out
  replace L23 := Lib.hid L23
  go_wp2_with (first | ((with_reducible refine wpList_load_want (op := ⟨some 58, .load 31 (.tmp 19), _, _, _, _⟩) ?wg22 31 (.tmp 19) ?wo22 ⟨V4.heap.size, 0, none⟩ ?wx22 (.agg VA) L22.out ?_); (case wg22 => rfl); (case wo22 => rfl); (case wx22 => rfl)) | ((with_reducible refine wpList_load_want (op := ⟨some 72, .load 29 (.tmp 17), _, _, _, _⟩) ?wg23 29 (.tmp 17) ?wo23 ⟨V1.heap.size, 0, none⟩ ?wx23 (.agg kc) L23.out ?_); (case wg23 => rfl); (case wo23 => rfl); (case wx23 => rfl)) | ((with_reducible refine wpList_built2 (op := ⟨some 74, .build 31 #[(0, Operand.tmp 59), (1, Operand.tmp 60), (2, Operand.tmp 63), (3, Operand.tmp 71), (4, Operand.tmp 72), (5, Operand.tmp 73)], _, _, _, _⟩) ?wg74 31 #[(0, Operand.tmp 59), (1, Operand.tmp 60), (2, Operand.tmp 63), (3, Operand.tmp 71), (4, Operand.tmp 72), (5, Operand.tmp 73)] ?wo74 #[(0, .bool true), (1, .int .i64 14), (2, .int .i64 54), (3, .int .i64 (en : Int)), (4, .agg kc), (5, .int .u8 0)] ?wv74 VA ?wf74 ?_); (case wg74 => rfl); (case wo74 => rfl); (case wv74 => kernel_rfl); (case wf74 => exact BV.out)))
  clear L22 L23
  refine (CG.out _ _ R.out).mono ?_
  rintro e V6 ⟨rfl, hy⟩
  replace K := Lib.hid (K.out.trans (hy.mono K.out.size))
  replace NK := Lib.hid (NK.out.below hy NK.out.lt)
  replace R := Lib.hid (R.out.below hy)
  replace HX := Lib.hid (HX.out.below hy HX.out.lt)
  clear hy
  have L24 := (HX.out.cell 3).trans H3.out
  go_wp2_with fail
  clear L24
  refine (awake_any _).mono ?_
  rintro e V7 ⟨rfl, hy⟩
  replace K := Lib.hid (K.out.trans (hy.mono K.out.size))
  replace NK := Lib.hid (NK.out.below hy NK.out.lt)
  replace R := Lib.hid (R.out.below hy)
  replace HX := Lib.hid (HX.out.below hy HX.out.lt)
  clear hy
  go_wp2
  go_ret
  exact ⟨rfl, K.out⟩

set_option maxRecDepth 100000 in
set_option maxHeartbeats 4000000 in
theorem built_tff (n : Int) (f : Nat) (a : Option Addr) (la ca : Nat) (zs : List Nat) (bare : Bool) (pad : Nat) (w : World) (hr : Rd w (.slice a la ca) (nus .u8 zs)) (hL : zs.length = la) (hna : a = none → ca = 0) (hb : ∀ c ∈ zs, c < 256) (hla : la ≤ 500) (hf : f < 256) (hpad : pad ≤ 50) :
    Calls Try.prog 4 #[.int .i64 n, .bool false, .bool false, .int .u8 (f : Int), .slice a la ca, .bool true, .bool bare, .int .i64 (pad : Int)] w fun e w' => e = .returned (.bool true) ∧ Below w.heap.size w w' := by
  obtain ⟨u, hu⟩ : ∃ u, u = (n % 1073741824).toNat := ⟨_, rfl⟩
  have CK := Lib.hid (fun W => flow_any n false false W)
  rw [← hu] at CK
  have CB := Lib.hid (fun W (h : Rd W (.slice a la ca) (nus .u8 zs)) => fB8_any u false false f pad a la ca zs true bare W h hL hna hb (by omega) hf (by omega))
  have T := fB8_told u false false f zs true bare (List.replicate pad 0) (by omega)
  have hlt := fB8_lt u false false f zs true bare pad hf hb
  generalize fB8 u false false f zs true bare (List.replicate pad 0) = F at *
  have hlen : F.length = 58 + la + pad := by
    have := T.len; rw [List.length_replicate, hL] at this
    show F.length = _
    rw [this]; show 18 + 20 + (20 + la) + pad = _; omega
  have CR := Lib.hid (fun W z (h : Rd W z (nus .u8 F)) => fread_any z F W h hlt (.inl (by omega)))
  rw [T.rr] at CR
  have CG := Lib.hid (fun W z (h : Rd W z (nus .u8 F)) => fgood_any z F W h hlt (by omega))
  rw [T.gf] at CG
  have QV := fun W => eq_vw F hlt (by omega) W
  have hvw : vw F = vcells false 18 38 (38 + (20 + la)) (flow u false false) f := by have := T.vw; rw [hL] at this; exact this
  rw [show 38 + (20 + la) = 58 + la by omega] at hvw
  have zk := flow_size u false false
  have Ak := Lib.hid (flow_all u false false)
  have zv := vw_size F
  have Av := Lib.hid (vw_all F)
  obtain ⟨en, hen⟩ : ∃ x, x = 58 + la := ⟨_, rfl⟩
  rw [← hen] at hvw
  have BV := Lib.hid ((built_flow false 18 38 en f u false false).trans (congrArg some hvw.symm))
  have H3 := Lib.hid (show (vw F)[3]? = some (.int .i64 (en : Int)) from by rw [hvw]; rfl)
  have HFL := Lib.hid (show F.length = en + pad by omega)
  generalize flow u false false = kc at *
  generalize vw F = VA at *
  have Zk := Lib.hid (i43.trans (congrArg some zk.symm))
  have Yk : Hid (kc.size = Array.size (#[Value.int .u8 0, .bool false, .int .u8 0, .int .u8 0, .int .u8 0, .int .u8 0, .int .u8 0, .int .u8 0, .int .u8 0, .int .u8 0, .int .u8 0, .int .u8 0, .int .u8 0, .int .u8 0, .int .u8 0, .int .u8 0, .int .u8 0, .int .u8 0, .bool false, .int .u8 0, .int .u8 0, .int .u8 0, .int .u8 0, .int .u8 0, .int .u8 0, .int .u8 0, .int .u8 0, .int .u8 0, .int .u8 0, .int .u8 0, .int .u8 0, .int .u8 0, .int .u8 0, .int .u8 0, .int .u8 0, .int .u16 0, .int .u16 0] : Array Value)) := zk
  have Zv := Lib.hid (i72.trans (congrArg some zv.symm))
  have Yv : Hid (VA.size = Array.size (#[Value.bool false, .int .i64 0, .int .i64 0, .int .i64 0, .int .u8 0, .bool false, .int .u8 0, .int .u8 0, .int .u8 0, .int .u8 0, .int .u8 0, .int .u8 0, .int .u8 0, .int .u8 0, .int .u8 0, .int .u8 0, .int .u8 0, .int .u8 0, .int .u8 0, .int .u8 0, .int .u8 0, .int .u8 0, .bool false, .int .u8 0, .int .u8 0, .int .u8 0, .int .u8 0, .int .u8 0, .int .u8 0, .int .u8 0, .int .u8 0, .int .u8 0, .int .u8 0, .int .u8 0, .int .u8 0, .int .u8 0, .int .u8 0, .int .u8 0, .int .u8 0, .int .u16 0, .int .u16 0, .int .u8 0] : Array Value)) := zv
  have wa := Lib.hid (show IntKind.i64.wrap (58 + (la : Int)) = (en : Int) by rw [IntKind.wrap_i64]; omega)
  obtain ⟨m, hm⟩ : ∃ m, m = F.length := ⟨_, rfl⟩
  have wb := Lib.hid (show IntKind.i64.wrap ((en : Int) + (pad : Int)) = (m : Int) by rw [IntKind.wrap_i64]; omega)
  rw [← hm] at CB
  have K := Lib.hid (Below.refl w.heap.size w)
  have HR := Lib.hid hr
  have hd1 : decide ((500 : Int) < (la : Int)) = false := decide_eq_false (by omega)
  have hd2 : decide ((pad : Int) < 0) = false := decide_eq_false (by omega)
  have hd3 : decide ((50 : Int) < (pad : Int)) = false := decide_eq_false (by omega)
  clear T hlt hlen hvw zk zv hen hu hr hm hL hna hb
  go_enter Try.func4, Try.ntmps4
  go_wp2_with fail
  refine (CK.out _).mono ?_
  rintro e V1 ⟨rfl, hy⟩
  replace K := Lib.hid (K.out.trans (hy.mono K.out.size))
  clear hy
  go_wp2_with (((with_reducible refine wpList_blk_store (op := ⟨none, .store 29 (.tmp 17) (.tmp 39), _, _, _, _⟩) ?sg25 29 (.tmp 17) (.tmp 39) ?so25 (V1.heap.size) kc ?sx25 ?sy25 (Blk.new V1 29 #[Value.int .u8 0, .bool false, .int .u8 0, .int .u8 0, .int .u8 0, .int .u8 0, .int .u8 0, .int .u8 0, .int .u8 0, .int .u8 0, .int .u8 0, .int .u8 0, .int .u8 0, .int .u8 0, .int .u8 0, .int .u8 0, .int .u8 0, .int .u8 0, .bool false, .int .u8 0, .int .u8 0, .int .u8 0, .int .u8 0, .int .u8 0, .int .u8 0, .int .u8 0, .int .u8 0, .int .u8 0, .int .u8 0, .int .u8 0, .int .u8 0, .int .u8 0, .int .u8 0, .int .u8 0, .int .u8 0, .int .u16 0, .int .u16 0]) Yk.out Zk.out Ak.out ?_); (case sg25 => rfl); (case so25 => rfl); (case sx25 => rfl); (case sy25 => rfl)))
  intro V2 hA hF hB
  have hy := ((Below.refl V1.heap.size V1).alloc (Nat.le_refl _) (.cells #[Value.int .u8 0, .bool false, .int .u8 0, .int .u8 0, .int .u8 0, .int .u8 0, .int .u8 0, .int .u8 0, .int .u8 0, .int .u8 0, .int .u8 0, .int .u8 0, .int .u8 0, .int .u8 0, .int .u8 0, .int .u8 0, .int .u8 0, .int .u8 0, .bool false, .int .u8 0, .int .u8 0, .int .u8 0, .int .u8 0, .int .u8 0, .int .u8 0, .int .u8 0, .int .u8 0, .int .u8 0, .int .u8 0, .int .u8 0, .int .u8 0, .int .u8 0, .int .u8 0, .int .u8 0, .int .u8 0, .int .u16 0, .int .u16 0] 29)).trans (hB _ (Nat.le_refl _))
  replace K := Lib.hid (K.out.trans (hy.mono K.out.size))
  have NK := Lib.hid hA
  clear hA hF hB hy
  clear hd1 hd2 hd3
  have L26 : (loadVar 29 ⟨V1.heap.size, 0, none⟩).run Try.prog V2 = .ok (.agg kc) V2 := run_blk_load (P := Try.prog) 29 (V1.heap.size) _ NK.out Try.underlying29 rfl Zk.out
  replace L26 := Lib.hid L26
  go_wp2_with (((with_reducible refine wpList_load_want (op := ⟨some 40, .load 29 (.tmp 17), _, _, _, _⟩) ?wg26 29 (.tmp 17) ?wo26 ⟨V1.heap.size, 0, none⟩ ?wx26 (.agg kc) L26.out ?_); (case wg26 => rfl); (case wo26 => rfl); (case wx26 => rfl)))
  clear L26
  refine (CB.out _ (HR.out.below K.out)).mono ?_
  rintro e V3 ⟨g, c, rfl, ho, hy⟩
  replace K := Lib.hid (K.out.trans (hy.mono K.out.size))
  replace NK := Lib.hid (NK.out.below hy NK.out.lt)
  have R := Lib.hid (Rd.own ho)
  clear ho
  clear hy
  go_wp2_with fail
  refine (CR.out _ _ R.out).mono ?_
  rintro e V4 ⟨rfl, hy⟩
  replace K := Lib.hid (K.out.trans (hy.mono K.out.size))
  replace NK := Lib.hid (NK.out.below hy NK.out.lt)
  replace R := Lib.hid (R.out.below hy)
  clear hy
  go_wp2_with (((with_reducible refine wpList_blk_store (op := ⟨none, .store 31 (.tmp 19) (.tmp 50), _, _, _, _⟩) ?sg27 31 (.tmp 19) (.tmp 50) ?so27 (V4.heap.size) VA ?sx27 ?sy27 (Blk.new V4 31 #[Value.bool false, .int .i64 0, .int .i64 0, .int .i64 0, .int .u8 0, .bool false, .int .u8 0, .int .u8 0, .int .u8 0, .int .u8 0, .int .u8 0, .int .u8 0, .int .u8 0, .int .u8 0, .int .u8 0, .int .u8 0, .int .u8 0, .int .u8 0, .int .u8 0, .int .u8 0, .int .u8 0, .int .u8 0, .bool false, .int .u8 0, .int .u8 0, .int .u8 0, .int .u8 0, .int .u8 0, .int .u8 0, .int .u8 0, .int .u8 0, .int .u8 0, .int .u8 0, .int .u8 0, .int .u8 0, .int .u8 0, .int .u8 0, .int .u8 0, .int .u8 0, .int .u16 0, .int .u16 0, .int .u8 0]) Yv.out Zv.out Av.out ?_); (case sg27 => rfl); (case so27 => rfl); (case sx27 => rfl); (case sy27 => rfl)))
  have qNKHX : V1.heap.size < V4.heap.size := NK.out.lt
  intro V5 hA hF hB
  have hy := ((Below.refl V4.heap.size V4).alloc (Nat.le_refl _) (.cells #[Value.bool false, .int .i64 0, .int .i64 0, .int .i64 0, .int .u8 0, .bool false, .int .u8 0, .int .u8 0, .int .u8 0, .int .u8 0, .int .u8 0, .int .u8 0, .int .u8 0, .int .u8 0, .int .u8 0, .int .u8 0, .int .u8 0, .int .u8 0, .int .u8 0, .int .u8 0, .int .u8 0, .int .u8 0, .bool false, .int .u8 0, .int .u8 0, .int .u8 0, .int .u8 0, .int .u8 0, .int .u8 0, .int .u8 0, .int .u8 0, .int .u8 0, .int .u8 0, .int .u8 0, .int .u8 0, .int .u8 0, .int .u8 0, .int .u8 0, .int .u8 0, .int .u16 0, .int .u16 0, .int .u8 0] 31)).trans (hB _ (Nat.le_refl _))
  replace K := Lib.hid (K.out.trans (hy.mono K.out.size))
  replace NK := Lib.hid (NK.out.below hy NK.out.lt)
  replace R := Lib.hid (R.out.below hy)
  have HX := Lib.hid hA
  clear hA hF hB hy
  have wa1 := wa.out
  have wb1 := wb.out
  have L28 : (loadVar 31 ⟨V4.heap.size, 0, none⟩).run Try.prog V5 = .ok (.agg VA) V5 := run_blk_load (P := Try.prog) 31 (V4.heap.size) _ HX.out Try.underlying31 rfl Zv.out
  replace L28 := Lib.hid L28
  have L29 : (loadVar 29 ⟨V1.heap.size, 0, none⟩).run Try.prog V5 = .ok (.agg kc) V5 := run_blk_load (P := Try.prog) 29 (V1.heap.size) _ NK.out Try.underlying29 rfl Zk.out
  replace L29 := Lib.hid L29
  go_wp2_with (first | ((with_reducible refine wpList_load_want (op := ⟨some 58, .load 31 (.tmp 19), _, _, _, _⟩) ?wg28 31 (.tmp 19) ?wo28 ⟨V4.heap.size, 0, none⟩ ?wx28 (.agg VA) L28.out ?_); (case wg28 => rfl); (case wo28 => rfl); (case wx28 => rfl)) | ((with_reducible refine wpList_load_want (op := ⟨some 72, .load 29 (.tmp 17), _, _, _, _⟩) ?wg29 29 (.tmp 17) ?wo29 ⟨V1.heap.size, 0, none⟩ ?wx29 (.agg kc) L29.out ?_); (case wg29 => rfl); (case wo29 => rfl); (case wx29 => rfl)) | ((with_reducible refine wpList_built2 (op := ⟨some 74, .build 31 #[(0, Operand.tmp 59), (1, Operand.tmp 60), (2, Operand.tmp 63), (3, Operand.tmp 71), (4, Operand.tmp 72), (5, Operand.tmp 73)], _, _, _, _⟩) ?wg74 31 #[(0, Operand.tmp 59), (1, Operand.tmp 60), (2, Operand.tmp 63), (3, Operand.tmp 71), (4, Operand.tmp 72), (5, Operand.tmp 73)] ?wo74 #[(0, .bool false), (1, .int .i64 18), (2, .int .i64 38), (3, .int .i64 (en : Int)), (4, .agg kc), (5, .int .u8 (f : Int))] ?wv74 VA ?wf74 ?_); (case wg74 => rfl); (case wo74 => rfl); (case wv74 => kernel_rfl); (case wf74 => exact BV.out)))
  clear L28 L29
  refine (CG.out _ _ R.out).mono ?_
  rintro e V6 ⟨rfl, hy⟩
  replace K := Lib.hid (K.out.trans (hy.mono K.out.size))
  replace NK := Lib.hid (NK.out.below hy NK.out.lt)
  replace R := Lib.hid (R.out.below hy)
  replace HX := Lib.hid (HX.out.below hy HX.out.lt)
  clear hy
  have L30 := (HX.out.cell 3).trans H3.out
  go_wp2_with fail
  clear L30
  refine (awake_any _).mono ?_
  rintro e V7 ⟨rfl, hy⟩
  replace K := Lib.hid (K.out.trans (hy.mono K.out.size))
  replace NK := Lib.hid (NK.out.below hy NK.out.lt)
  replace R := Lib.hid (R.out.below hy)
  replace HX := Lib.hid (HX.out.below hy HX.out.lt)
  clear hy
  go_wp2
  go_ret
  exact ⟨rfl, K.out⟩

set_option maxRecDepth 100000 in
set_option maxHeartbeats 4000000 in
theorem built_tft (n : Int) (f : Nat) (a : Option Addr) (la ca : Nat) (zs : List Nat) (bare : Bool) (pad : Nat) (w : World) (hr : Rd w (.slice a la ca) (nus .u8 zs)) (hL : zs.length = la) (hna : a = none → ca = 0) (hb : ∀ c ∈ zs, c < 256) (hla : la ≤ 500) (hf : f < 256) (hpad : pad ≤ 50) :
    Calls Try.prog 4 #[.int .i64 n, .bool false, .bool true, .int .u8 (f : Int), .slice a la ca, .bool true, .bool bare, .int .i64 (pad : Int)] w fun e w' => e = .returned (.bool true) ∧ Below w.heap.size w w' := by
  obtain ⟨u, hu⟩ : ∃ u, u = (n % 1073741824).toNat := ⟨_, rfl⟩
  have CK := Lib.hid (fun W => flow_any n false true W)
  rw [← hu] at CK
  have CB := Lib.hid (fun W (h : Rd W (.slice a la ca) (nus .u8 zs)) => fB8_any u false true f pad a la ca zs true bare W h hL hna hb (by omega) hf (by omega))
  have T := fB8_told u false true f zs true bare (List.replicate pad 0) (by omega)
  have hlt := fB8_lt u false true f zs true bare pad hf hb
  generalize fB8 u false true f zs true bare (List.replicate pad 0) = F at *
  have hlen : F.length = 46 + la + pad := by
    have := T.len; rw [List.length_replicate, hL] at this
    show F.length = _
    rw [this]; show 18 + 20 + (8 + la) + pad = _; omega
  have CR := Lib.hid (fun W z (h : Rd W z (nus .u8 F)) => fread_any z F W h hlt (.inl (by omega)))
  rw [T.rr] at CR
  have CG := Lib.hid (fun W z (h : Rd W z (nus .u8 F)) => fgood_any z F W h hlt (by omega))
  rw [T.gf] at CG
  have QV := fun W => eq_vw F hlt (by omega) W
  have hvw : vw F = vcells false 18 38 (38 + (8 + la)) (flow u false true) 0 := by have := T.vw; rw [hL] at this; exact this
  rw [show 38 + (8 + la) = 46 + la by omega] at hvw
  have zk := flow_size u false true
  have Ak := Lib.hid (flow_all u false true)
  have zv := vw_size F
  have Av := Lib.hid (vw_all F)
  obtain ⟨en, hen⟩ : ∃ x, x = 46 + la := ⟨_, rfl⟩
  rw [← hen] at hvw
  have BV := Lib.hid ((built_flow false 18 38 en 0 u false true).trans (congrArg some hvw.symm))
  have H3 := Lib.hid (show (vw F)[3]? = some (.int .i64 (en : Int)) from by rw [hvw]; rfl)
  have HFL := Lib.hid (show F.length = en + pad by omega)
  generalize flow u false true = kc at *
  generalize vw F = VA at *
  have Zk := Lib.hid (i43.trans (congrArg some zk.symm))
  have Yk : Hid (kc.size = Array.size (#[Value.int .u8 0, .bool false, .int .u8 0, .int .u8 0, .int .u8 0, .int .u8 0, .int .u8 0, .int .u8 0, .int .u8 0, .int .u8 0, .int .u8 0, .int .u8 0, .int .u8 0, .int .u8 0, .int .u8 0, .int .u8 0, .int .u8 0, .int .u8 0, .bool false, .int .u8 0, .int .u8 0, .int .u8 0, .int .u8 0, .int .u8 0, .int .u8 0, .int .u8 0, .int .u8 0, .int .u8 0, .int .u8 0, .int .u8 0, .int .u8 0, .int .u8 0, .int .u8 0, .int .u8 0, .int .u8 0, .int .u16 0, .int .u16 0] : Array Value)) := zk
  have Zv := Lib.hid (i72.trans (congrArg some zv.symm))
  have Yv : Hid (VA.size = Array.size (#[Value.bool false, .int .i64 0, .int .i64 0, .int .i64 0, .int .u8 0, .bool false, .int .u8 0, .int .u8 0, .int .u8 0, .int .u8 0, .int .u8 0, .int .u8 0, .int .u8 0, .int .u8 0, .int .u8 0, .int .u8 0, .int .u8 0, .int .u8 0, .int .u8 0, .int .u8 0, .int .u8 0, .int .u8 0, .bool false, .int .u8 0, .int .u8 0, .int .u8 0, .int .u8 0, .int .u8 0, .int .u8 0, .int .u8 0, .int .u8 0, .int .u8 0, .int .u8 0, .int .u8 0, .int .u8 0, .int .u8 0, .int .u8 0, .int .u8 0, .int .u8 0, .int .u16 0, .int .u16 0, .int .u8 0] : Array Value)) := zv
  have wa := Lib.hid (show IntKind.i64.wrap (46 + (la : Int)) = (en : Int) by rw [IntKind.wrap_i64]; omega)
  obtain ⟨m, hm⟩ : ∃ m, m = F.length := ⟨_, rfl⟩
  have wb := Lib.hid (show IntKind.i64.wrap ((en : Int) + (pad : Int)) = (m : Int) by rw [IntKind.wrap_i64]; omega)
  rw [← hm] at CB
  have K := Lib.hid (Below.refl w.heap.size w)
  have HR := Lib.hid hr
  have hd1 : decide ((500 : Int) < (la : Int)) = false := decide_eq_false (by omega)
  have hd2 : decide ((pad : Int) < 0) = false := decide_eq_false (by omega)
  have hd3 : decide ((50 : Int) < (pad : Int)) = false := decide_eq_false (by omega)
  clear T hlt hlen hvw zk zv hen hu hr hm hL hna hb
  go_enter Try.func4, Try.ntmps4
  go_wp2_with fail
  refine (CK.out _).mono ?_
  rintro e V1 ⟨rfl, hy⟩
  replace K := Lib.hid (K.out.trans (hy.mono K.out.size))
  clear hy
  go_wp2_with (((with_reducible refine wpList_blk_store (op := ⟨none, .store 29 (.tmp 17) (.tmp 39), _, _, _, _⟩) ?sg31 29 (.tmp 17) (.tmp 39) ?so31 (V1.heap.size) kc ?sx31 ?sy31 (Blk.new V1 29 #[Value.int .u8 0, .bool false, .int .u8 0, .int .u8 0, .int .u8 0, .int .u8 0, .int .u8 0, .int .u8 0, .int .u8 0, .int .u8 0, .int .u8 0, .int .u8 0, .int .u8 0, .int .u8 0, .int .u8 0, .int .u8 0, .int .u8 0, .int .u8 0, .bool false, .int .u8 0, .int .u8 0, .int .u8 0, .int .u8 0, .int .u8 0, .int .u8 0, .int .u8 0, .int .u8 0, .int .u8 0, .int .u8 0, .int .u8 0, .int .u8 0, .int .u8 0, .int .u8 0, .int .u8 0, .int .u8 0, .int .u16 0, .int .u16 0]) Yk.out Zk.out Ak.out ?_); (case sg31 => rfl); (case so31 => rfl); (case sx31 => rfl); (case sy31 => rfl)))
  intro V2 hA hF hB
  have hy := ((Below.refl V1.heap.size V1).alloc (Nat.le_refl _) (.cells #[Value.int .u8 0, .bool false, .int .u8 0, .int .u8 0, .int .u8 0, .int .u8 0, .int .u8 0, .int .u8 0, .int .u8 0, .int .u8 0, .int .u8 0, .int .u8 0, .int .u8 0, .int .u8 0, .int .u8 0, .int .u8 0, .int .u8 0, .int .u8 0, .bool false, .int .u8 0, .int .u8 0, .int .u8 0, .int .u8 0, .int .u8 0, .int .u8 0, .int .u8 0, .int .u8 0, .int .u8 0, .int .u8 0, .int .u8 0, .int .u8 0, .int .u8 0, .int .u8 0, .int .u8 0, .int .u8 0, .int .u16 0, .int .u16 0] 29)).trans (hB _ (Nat.le_refl _))
  replace K := Lib.hid (K.out.trans (hy.mono K.out.size))
  have NK := Lib.hid hA
  clear hA hF hB hy
  clear hd1 hd2 hd3
  have L32 : (loadVar 29 ⟨V1.heap.size, 0, none⟩).run Try.prog V2 = .ok (.agg kc) V2 := run_blk_load (P := Try.prog) 29 (V1.heap.size) _ NK.out Try.underlying29 rfl Zk.out
  replace L32 := Lib.hid L32
  go_wp2_with (((with_reducible refine wpList_load_want (op := ⟨some 40, .load 29 (.tmp 17), _, _, _, _⟩) ?wg32 29 (.tmp 17) ?wo32 ⟨V1.heap.size, 0, none⟩ ?wx32 (.agg kc) L32.out ?_); (case wg32 => rfl); (case wo32 => rfl); (case wx32 => rfl)))
  clear L32
  refine (CB.out _ (HR.out.below K.out)).mono ?_
  rintro e V3 ⟨g, c, rfl, ho, hy⟩
  replace K := Lib.hid (K.out.trans (hy.mono K.out.size))
  replace NK := Lib.hid (NK.out.below hy NK.out.lt)
  have R := Lib.hid (Rd.own ho)
  clear ho
  clear hy
  go_wp2_with fail
  refine (CR.out _ _ R.out).mono ?_
  rintro e V4 ⟨rfl, hy⟩
  replace K := Lib.hid (K.out.trans (hy.mono K.out.size))
  replace NK := Lib.hid (NK.out.below hy NK.out.lt)
  replace R := Lib.hid (R.out.below hy)
  clear hy
  go_wp2_with (((with_reducible refine wpList_blk_store (op := ⟨none, .store 31 (.tmp 19) (.tmp 50), _, _, _, _⟩) ?sg33 31 (.tmp 19) (.tmp 50) ?so33 (V4.heap.size) VA ?sx33 ?sy33 (Blk.new V4 31 #[Value.bool false, .int .i64 0, .int .i64 0, .int .i64 0, .int .u8 0, .bool false, .int .u8 0, .int .u8 0, .int .u8 0, .int .u8 0, .int .u8 0, .int .u8 0, .int .u8 0, .int .u8 0, .int .u8 0, .int .u8 0, .int .u8 0, .int .u8 0, .int .u8 0, .int .u8 0, .int .u8 0, .int .u8 0, .bool false, .int .u8 0, .int .u8 0, .int .u8 0, .int .u8 0, .int .u8 0, .int .u8 0, .int .u8 0, .int .u8 0, .int .u8 0, .int .u8 0, .int .u8 0, .int .u8 0, .int .u8 0, .int .u8 0, .int .u8 0, .int .u8 0, .int .u16 0, .int .u16 0, .int .u8 0]) Yv.out Zv.out Av.out ?_); (case sg33 => rfl); (case so33 => rfl); (case sx33 => rfl); (case sy33 => rfl)))
  have qNKHX : V1.heap.size < V4.heap.size := NK.out.lt
  intro V5 hA hF hB
  have hy := ((Below.refl V4.heap.size V4).alloc (Nat.le_refl _) (.cells #[Value.bool false, .int .i64 0, .int .i64 0, .int .i64 0, .int .u8 0, .bool false, .int .u8 0, .int .u8 0, .int .u8 0, .int .u8 0, .int .u8 0, .int .u8 0, .int .u8 0, .int .u8 0, .int .u8 0, .int .u8 0, .int .u8 0, .int .u8 0, .int .u8 0, .int .u8 0, .int .u8 0, .int .u8 0, .bool false, .int .u8 0, .int .u8 0, .int .u8 0, .int .u8 0, .int .u8 0, .int .u8 0, .int .u8 0, .int .u8 0, .int .u8 0, .int .u8 0, .int .u8 0, .int .u8 0, .int .u8 0, .int .u8 0, .int .u8 0, .int .u8 0, .int .u16 0, .int .u16 0, .int .u8 0] 31)).trans (hB _ (Nat.le_refl _))
  replace K := Lib.hid (K.out.trans (hy.mono K.out.size))
  replace NK := Lib.hid (NK.out.below hy NK.out.lt)
  replace R := Lib.hid (R.out.below hy)
  have HX := Lib.hid hA
  clear hA hF hB hy
  have wa1 := wa.out
  have wb1 := wb.out
  have L34 : (loadVar 31 ⟨V4.heap.size, 0, none⟩).run Try.prog V5 = .ok (.agg VA) V5 := run_blk_load (P := Try.prog) 31 (V4.heap.size) _ HX.out Try.underlying31 rfl Zv.out
  replace L34 := Lib.hid L34
  have L35 : (loadVar 29 ⟨V1.heap.size, 0, none⟩).run Try.prog V5 = .ok (.agg kc) V5 := run_blk_load (P := Try.prog) 29 (V1.heap.size) _ NK.out Try.underlying29 rfl Zk.out
  replace L35 := Lib.hid L35
  go_wp2_with (first | ((with_reducible refine wpList_load_want (op := ⟨some 58, .load 31 (.tmp 19), _, _, _, _⟩) ?wg34 31 (.tmp 19) ?wo34 ⟨V4.heap.size, 0, none⟩ ?wx34 (.agg VA) L34.out ?_); (case wg34 => rfl); (case wo34 => rfl); (case wx34 => rfl)) | ((with_reducible refine wpList_load_want (op := ⟨some 72, .load 29 (.tmp 17), _, _, _, _⟩) ?wg35 29 (.tmp 17) ?wo35 ⟨V1.heap.size, 0, none⟩ ?wx35 (.agg kc) L35.out ?_); (case wg35 => rfl); (case wo35 => rfl); (case wx35 => rfl)) | ((with_reducible refine wpList_built2 (op := ⟨some 74, .build 31 #[(0, Operand.tmp 59), (1, Operand.tmp 60), (2, Operand.tmp 63), (3, Operand.tmp 71), (4, Operand.tmp 72), (5, Operand.tmp 73)], _, _, _, _⟩) ?wg74 31 #[(0, Operand.tmp 59), (1, Operand.tmp 60), (2, Operand.tmp 63), (3, Operand.tmp 71), (4, Operand.tmp 72), (5, Operand.tmp 73)] ?wo74 #[(0, .bool false), (1, .int .i64 18), (2, .int .i64 38), (3, .int .i64 (en : Int)), (4, .agg kc), (5, .int .u8 0)] ?wv74 VA ?wf74 ?_); (case wg74 => rfl); (case wo74 => rfl); (case wv74 => kernel_rfl); (case wf74 => exact BV.out)))
  clear L34 L35
  refine (CG.out _ _ R.out).mono ?_
  rintro e V6 ⟨rfl, hy⟩
  replace K := Lib.hid (K.out.trans (hy.mono K.out.size))
  replace NK := Lib.hid (NK.out.below hy NK.out.lt)
  replace R := Lib.hid (R.out.below hy)
  replace HX := Lib.hid (HX.out.below hy HX.out.lt)
  clear hy
  have L36 := (HX.out.cell 3).trans H3.out
  go_wp2_with fail
  clear L36
  refine (awake_any _).mono ?_
  rintro e V7 ⟨rfl, hy⟩
  replace K := Lib.hid (K.out.trans (hy.mono K.out.size))
  replace NK := Lib.hid (NK.out.below hy NK.out.lt)
  replace R := Lib.hid (R.out.below hy)
  replace HX := Lib.hid (HX.out.below hy HX.out.lt)
  clear hy
  go_wp2
  go_ret
  exact ⟨rfl, K.out⟩

set_option maxRecDepth 100000 in
set_option maxHeartbeats 4000000 in
theorem built_ttf (n : Int) (f : Nat) (a : Option Addr) (la ca : Nat) (zs : List Nat) (bare : Bool) (pad : Nat) (w : World) (hr : Rd w (.slice a la ca) (nus .u8 zs)) (hL : zs.length = la) (hna : a = none → ca = 0) (hb : ∀ c ∈ zs, c < 256) (hla : la ≤ 500) (hf : f < 256) (hpad : pad ≤ 50) :
    Calls Try.prog 4 #[.int .i64 n, .bool true, .bool false, .int .u8 (f : Int), .slice a la ca, .bool true, .bool bare, .int .i64 (pad : Int)] w fun e w' => e = .returned (.bool true) ∧ Below w.heap.size w w' := by
  obtain ⟨u, hu⟩ : ∃ u, u = (n % 1073741824).toNat := ⟨_, rfl⟩
  have CK := Lib.hid (fun W => flow_any n true false W)
  rw [← hu] at CK
  have CB := Lib.hid (fun W (h : Rd W (.slice a la ca) (nus .u8 zs)) => fB8_any u true false f pad a la ca zs true bare W h hL hna hb (by omega) hf (by omega))
  have T := fB8_told u true false f zs true bare (List.replicate pad 0) (by omega)
  have hlt := fB8_lt u true false f zs true bare pad hf hb
  generalize fB8 u true false f zs true bare (List.replicate pad 0) = F at *
  have hlen : F.length = 78 + la + pad := by
    have := T.len; rw [List.length_replicate, hL] at this
    show F.length = _
    rw [this]; show 18 + 40 + (20 + la) + pad = _; omega
  have CR := Lib.hid (fun W z (h : Rd W z (nus .u8 F)) => fread_any z F W h hlt (.inl (by omega)))
  rw [T.rr] at CR
  have CG := Lib.hid (fun W z (h : Rd W z (nus .u8 F)) => fgood_any z F W h hlt (by omega))
  rw [T.gf] at CG
  have QV := fun W => eq_vw F hlt (by omega) W
  have hvw : vw F = vcells true 18 58 (58 + (20 + la)) (flow u true false) f := by have := T.vw; rw [hL] at this; exact this
  rw [show 58 + (20 + la) = 78 + la by omega] at hvw
  have zk := flow_size u true false
  have Ak := Lib.hid (flow_all u true false)
  have zv := vw_size F
  have Av := Lib.hid (vw_all F)
  obtain ⟨en, hen⟩ : ∃ x, x = 78 + la := ⟨_, rfl⟩
  rw [← hen] at hvw
  have BV := Lib.hid ((built_flow true 18 58 en f u true false).trans (congrArg some hvw.symm))
  have H3 := Lib.hid (show (vw F)[3]? = some (.int .i64 (en : Int)) from by rw [hvw]; rfl)
  have HFL := Lib.hid (show F.length = en + pad by omega)
  generalize flow u true false = kc at *
  generalize vw F = VA at *
  have Zk := Lib.hid (i43.trans (congrArg some zk.symm))
  have Yk : Hid (kc.size = Array.size (#[Value.int .u8 0, .bool false, .int .u8 0, .int .u8 0, .int .u8 0, .int .u8 0, .int .u8 0, .int .u8 0, .int .u8 0, .int .u8 0, .int .u8 0, .int .u8 0, .int .u8 0, .int .u8 0, .int .u8 0, .int .u8 0, .int .u8 0, .int .u8 0, .bool false, .int .u8 0, .int .u8 0, .int .u8 0, .int .u8 0, .int .u8 0, .int .u8 0, .int .u8 0, .int .u8 0, .int .u8 0, .int .u8 0, .int .u8 0, .int .u8 0, .int .u8 0, .int .u8 0, .int .u8 0, .int .u8 0, .int .u16 0, .int .u16 0] : Array Value)) := zk
  have Zv := Lib.hid (i72.trans (congrArg some zv.symm))
  have Yv : Hid (VA.size = Array.size (#[Value.bool false, .int .i64 0, .int .i64 0, .int .i64 0, .int .u8 0, .bool false, .int .u8 0, .int .u8 0, .int .u8 0, .int .u8 0, .int .u8 0, .int .u8 0, .int .u8 0, .int .u8 0, .int .u8 0, .int .u8 0, .int .u8 0, .int .u8 0, .int .u8 0, .int .u8 0, .int .u8 0, .int .u8 0, .bool false, .int .u8 0, .int .u8 0, .int .u8 0, .int .u8 0, .int .u8 0, .int .u8 0, .int .u8 0, .int .u8 0, .int .u8 0, .int .u8 0, .int .u8 0, .int .u8 0, .int .u8 0, .int .u8 0, .int .u8 0, .int .u8 0, .int .u16 0, .int .u16 0, .int .u8 0] : Array Value)) := zv
  have wa := Lib.hid (show IntKind.i64.wrap (78 + (la : Int)) = (en : Int) by rw [IntKind.wrap_i64]; omega)
  obtain ⟨m, hm⟩ : ∃ m, m = F.length := ⟨_, rfl⟩
  have wb := Lib.hid (show IntKind.i64.wrap ((en : Int) + (pad : Int)) = (m : Int) by rw [IntKind.wrap_i64]; omega)
  rw [← hm] at CB
  have K := Lib.hid (Below.refl w.heap.size w)
  have HR := Lib.hid hr
  have hd1 : decide ((500 : Int) < (la : Int)) = false := decide_eq_false (by omega)
  have hd2 : decide ((pad : Int) < 0) = false := decide_eq_false (by omega)
  have hd3 : decide ((50 : Int) < (pad : Int)) = false := decide_eq_false (by omega)
  clear T hlt hlen hvw zk zv hen hu hr hm hL hna hb
  go_enter Try.func4, Try.ntmps4
  go_wp2_with fail
  refine (CK.out _).mono ?_
  rintro e V1 ⟨rfl, hy⟩
  replace K := Lib.hid (K.out.trans (hy.mono K.out.size))
  clear hy
  go_wp2_with (((with_reducible refine wpList_blk_store (op := ⟨none, .store 29 (.tmp 17) (.tmp 39), _, _, _, _⟩) ?sg37 29 (.tmp 17) (.tmp 39) ?so37 (V1.heap.size) kc ?sx37 ?sy37 (Blk.new V1 29 #[Value.int .u8 0, .bool false, .int .u8 0, .int .u8 0, .int .u8 0, .int .u8 0, .int .u8 0, .int .u8 0, .int .u8 0, .int .u8 0, .int .u8 0, .int .u8 0, .int .u8 0, .int .u8 0, .int .u8 0, .int .u8 0, .int .u8 0, .int .u8 0, .bool false, .int .u8 0, .int .u8 0, .int .u8 0, .int .u8 0, .int .u8 0, .int .u8 0, .int .u8 0, .int .u8 0, .int .u8 0, .int .u8 0, .int .u8 0, .int .u8 0, .int .u8 0, .int .u8 0, .int .u8 0, .int .u8 0, .int .u16 0, .int .u16 0]) Yk.out Zk.out Ak.out ?_); (case sg37 => rfl); (case so37 => rfl); (case sx37 => rfl); (case sy37 => rfl)))
  intro V2 hA hF hB
  have hy := ((Below.refl V1.heap.size V1).alloc (Nat.le_refl _) (.cells #[Value.int .u8 0, .bool false, .int .u8 0, .int .u8 0, .int .u8 0, .int .u8 0, .int .u8 0, .int .u8 0, .int .u8 0, .int .u8 0, .int .u8 0, .int .u8 0, .int .u8 0, .int .u8 0, .int .u8 0, .int .u8 0, .int .u8 0, .int .u8 0, .bool false, .int .u8 0, .int .u8 0, .int .u8 0, .int .u8 0, .int .u8 0, .int .u8 0, .int .u8 0, .int .u8 0, .int .u8 0, .int .u8 0, .int .u8 0, .int .u8 0, .int .u8 0, .int .u8 0, .int .u8 0, .int .u8 0, .int .u16 0, .int .u16 0] 29)).trans (hB _ (Nat.le_refl _))
  replace K := Lib.hid (K.out.trans (hy.mono K.out.size))
  have NK := Lib.hid hA
  clear hA hF hB hy
  clear hd1 hd2 hd3
  have L38 : (loadVar 29 ⟨V1.heap.size, 0, none⟩).run Try.prog V2 = .ok (.agg kc) V2 := run_blk_load (P := Try.prog) 29 (V1.heap.size) _ NK.out Try.underlying29 rfl Zk.out
  replace L38 := Lib.hid L38
  go_wp2_with (((with_reducible refine wpList_load_want (op := ⟨some 40, .load 29 (.tmp 17), _, _, _, _⟩) ?wg38 29 (.tmp 17) ?wo38 ⟨V1.heap.size, 0, none⟩ ?wx38 (.agg kc) L38.out ?_); (case wg38 => rfl); (case wo38 => rfl); (case wx38 => rfl)))
  clear L38
  refine (CB.out _ (HR.out.below K.out)).mono ?_
  rintro e V3 ⟨g, c, rfl, ho, hy⟩
  replace K := Lib.hid (K.out.trans (hy.mono K.out.size))
  replace NK := Lib.hid (NK.out.below hy NK.out.lt)
  have R := Lib.hid (Rd.own ho)
  clear ho
  clear hy
  go_wp2_with fail
  refine (CR.out _ _ R.out).mono ?_
  rintro e V4 ⟨rfl, hy⟩
  replace K := Lib.hid (K.out.trans (hy.mono K.out.size))
  replace NK := Lib.hid (NK.out.below hy NK.out.lt)
  replace R := Lib.hid (R.out.below hy)
  clear hy
  go_wp2_with (((with_reducible refine wpList_blk_store (op := ⟨none, .store 31 (.tmp 19) (.tmp 50), _, _, _, _⟩) ?sg39 31 (.tmp 19) (.tmp 50) ?so39 (V4.heap.size) VA ?sx39 ?sy39 (Blk.new V4 31 #[Value.bool false, .int .i64 0, .int .i64 0, .int .i64 0, .int .u8 0, .bool false, .int .u8 0, .int .u8 0, .int .u8 0, .int .u8 0, .int .u8 0, .int .u8 0, .int .u8 0, .int .u8 0, .int .u8 0, .int .u8 0, .int .u8 0, .int .u8 0, .int .u8 0, .int .u8 0, .int .u8 0, .int .u8 0, .bool false, .int .u8 0, .int .u8 0, .int .u8 0, .int .u8 0, .int .u8 0, .int .u8 0, .int .u8 0, .int .u8 0, .int .u8 0, .int .u8 0, .int .u8 0, .int .u8 0, .int .u8 0, .int .u8 0, .int .u8 0, .int .u8 0, .int .u16 0, .int .u16 0, .int .u8 0]) Yv.out Zv.out Av.out ?_); (case sg39 => rfl); (case so39 => rfl); (case sx39 => rfl); (case sy39 => rfl)))
  have qNKHX : V1.heap.size < V4.heap.size := NK.out.lt
  intro V5 hA hF hB
  have hy := ((Below.refl V4.heap.size V4).alloc (Nat.le_refl _) (.cells #[Value.bool false, .int .i64 0, .int .i64 0, .int .i64 0, .int .u8 0, .bool false, .int .u8 0, .int .u8 0, .int .u8 0, .int .u8 0, .int .u8 0, .int .u8 0, .int .u8 0, .int .u8 0, .int .u8 0, .int .u8 0, .int .u8 0, .int .u8 0, .int .u8 0, .int .u8 0, .int .u8 0, .int .u8 0, .bool false, .int .u8 0, .int .u8 0, .int .u8 0, .int .u8 0, .int .u8 0, .int .u8 0, .int .u8 0, .int .u8 0, .int .u8 0, .int .u8 0, .int .u8 0, .int .u8 0, .int .u8 0, .int .u8 0, .int .u8 0, .int .u8 0, .int .u16 0, .int .u16 0, .int .u8 0] 31)).trans (hB _ (Nat.le_refl _))
  replace K := Lib.hid (K.out.trans (hy.mono K.out.size))
  replace NK := Lib.hid (NK.out.below hy NK.out.lt)
  replace R := Lib.hid (R.out.below hy)
  have HX := Lib.hid hA
  clear hA hF hB hy
  have wa1 := wa.out
  have wb1 := wb.out
  have L40 : (loadVar 31 ⟨V4.heap.size, 0, none⟩).run Try.prog V5 = .ok (.agg VA) V5 := run_blk_load (P := Try.prog) 31 (V4.heap.size) _ HX.out Try.underlying31 rfl Zv.out
  replace L40 := Lib.hid L40
  have L41 : (loadVar 29 ⟨V1.heap.size, 0, none⟩).run Try.prog V5 = .ok (.agg kc) V5 := run_blk_load (P := Try.prog) 29 (V1.heap.size) _ NK.out Try.underlying29 rfl Zk.out
  replace L41 := Lib.hid L41
  go_wp2_with (first | ((with_reducible refine wpList_load_want (op := ⟨some 58, .load 31 (.tmp 19), _, _, _, _⟩) ?wg40 31 (.tmp 19) ?wo40 ⟨V4.heap.size, 0, none⟩ ?wx40 (.agg VA) L40.out ?_); (case wg40 => rfl); (case wo40 => rfl); (case wx40 => rfl)) | ((with_reducible refine wpList_load_want (op := ⟨some 72, .load 29 (.tmp 17), _, _, _, _⟩) ?wg41 29 (.tmp 17) ?wo41 ⟨V1.heap.size, 0, none⟩ ?wx41 (.agg kc) L41.out ?_); (case wg41 => rfl); (case wo41 => rfl); (case wx41 => rfl)) | ((with_reducible refine wpList_built2 (op := ⟨some 74, .build 31 #[(0, Operand.tmp 59), (1, Operand.tmp 60), (2, Operand.tmp 63), (3, Operand.tmp 71), (4, Operand.tmp 72), (5, Operand.tmp 73)], _, _, _, _⟩) ?wg74 31 #[(0, Operand.tmp 59), (1, Operand.tmp 60), (2, Operand.tmp 63), (3, Operand.tmp 71), (4, Operand.tmp 72), (5, Operand.tmp 73)] ?wo74 #[(0, .bool true), (1, .int .i64 18), (2, .int .i64 58), (3, .int .i64 (en : Int)), (4, .agg kc), (5, .int .u8 (f : Int))] ?wv74 VA ?wf74 ?_); (case wg74 => rfl); (case wo74 => rfl); (case wv74 => kernel_rfl); (case wf74 => exact BV.out)))
  clear L40 L41
  refine (CG.out _ _ R.out).mono ?_
  rintro e V6 ⟨rfl, hy⟩
  replace K := Lib.hid (K.out.trans (hy.mono K.out.size))
  replace NK := Lib.hid (NK.out.below hy NK.out.lt)
  replace R := Lib.hid (R.out.below hy)
  replace HX := Lib.hid (HX.out.below hy HX.out.lt)
  clear hy
  have L42 := (HX.out.cell 3).trans H3.out
  go_wp2_with fail
  clear L42
  refine (awake_any _).mono ?_
  rintro e V7 ⟨rfl, hy⟩
  replace K := Lib.hid (K.out.trans (hy.mono K.out.size))
  replace NK := Lib.hid (NK.out.below hy NK.out.lt)
  replace R := Lib.hid (R.out.below hy)
  replace HX := Lib.hid (HX.out.below hy HX.out.lt)
  clear hy
  go_wp2
  go_ret
  exact ⟨rfl, K.out⟩

set_option maxRecDepth 100000 in
set_option maxHeartbeats 4000000 in
theorem built_ttt (n : Int) (f : Nat) (a : Option Addr) (la ca : Nat) (zs : List Nat) (bare : Bool) (pad : Nat) (w : World) (hr : Rd w (.slice a la ca) (nus .u8 zs)) (hL : zs.length = la) (hna : a = none → ca = 0) (hb : ∀ c ∈ zs, c < 256) (hla : la ≤ 500) (hf : f < 256) (hpad : pad ≤ 50) :
    Calls Try.prog 4 #[.int .i64 n, .bool true, .bool true, .int .u8 (f : Int), .slice a la ca, .bool true, .bool bare, .int .i64 (pad : Int)] w fun e w' => e = .returned (.bool true) ∧ Below w.heap.size w w' := by
  obtain ⟨u, hu⟩ : ∃ u, u = (n % 1073741824).toNat := ⟨_, rfl⟩
  have CK := Lib.hid (fun W => flow_any n true true W)
  rw [← hu] at CK
  have CB := Lib.hid (fun W (h : Rd W (.slice a la ca) (nus .u8 zs)) => fB8_any u true true f pad a la ca zs true bare W h hL hna hb (by omega) hf (by omega))
  have T := fB8_told u true true f zs true bare (List.replicate pad 0) (by omega)
  have hlt := fB8_lt u true true f zs true bare pad hf hb
  generalize fB8 u true true f zs true bare (List.replicate pad 0) = F at *
  have hlen : F.length = 66 + la + pad := by
    have := T.len; rw [List.length_replicate, hL] at this
    show F.length = _
    rw [this]; show 18 + 40 + (8 + la) + pad = _; omega
  have CR := Lib.hid (fun W z (h : Rd W z (nus .u8 F)) => fread_any z F W h hlt (.inl (by omega)))
  rw [T.rr] at CR
  have CG := Lib.hid (fun W z (h : Rd W z (nus .u8 F)) => fgood_any z F W h hlt (by omega))
  rw [T.gf] at CG
  have QV := fun W => eq_vw F hlt (by omega) W
  have hvw : vw F = vcells true 18 58 (58 + (8 + la)) (flow u true true) 0 := by have := T.vw; rw [hL] at this; exact this
  rw [show 58 + (8 + la) = 66 + la by omega] at hvw
  have zk := flow_size u true true
  have Ak := Lib.hid (flow_all u true true)
  have zv := vw_size F
  have Av := Lib.hid (vw_all F)
  obtain ⟨en, hen⟩ : ∃ x, x = 66 + la := ⟨_, rfl⟩
  rw [← hen] at hvw
  have BV := Lib.hid ((built_flow true 18 58 en 0 u true true).trans (congrArg some hvw.symm))
  have H3 := Lib.hid (show (vw F)[3]? = some (.int .i64 (en : Int)) from by rw [hvw]; rfl)
  have HFL := Lib.hid (show F.length = en + pad by omega)
  generalize flow u true true = kc at *
  generalize vw F = VA at *
  have Zk := Lib.hid (i43.trans (congrArg some zk.symm))
  have Yk : Hid (kc.size = Array.size (#[Value.int .u8 0, .bool false, .int .u8 0, .int .u8 0, .int .u8 0, .int .u8 0, .int .u8 0, .int .u8 0, .int .u8 0, .int .u8 0, .int .u8 0, .int .u8 0, .int .u8 0, .int .u8 0, .int .u8 0, .int .u8 0, .int .u8 0, .int .u8 0, .bool false, .int .u8 0, .int .u8 0, .int .u8 0, .int .u8 0, .int .u8 0, .int .u8 0, .int .u8 0, .int .u8 0, .int .u8 0, .int .u8 0, .int .u8 0, .int .u8 0, .int .u8 0, .int .u8 0, .int .u8 0, .int .u8 0, .int .u16 0, .int .u16 0] : Array Value)) := zk
  have Zv := Lib.hid (i72.trans (congrArg some zv.symm))
  have Yv : Hid (VA.size = Array.size (#[Value.bool false, .int .i64 0, .int .i64 0, .int .i64 0, .int .u8 0, .bool false, .int .u8 0, .int .u8 0, .int .u8 0, .int .u8 0, .int .u8 0, .int .u8 0, .int .u8 0, .int .u8 0, .int .u8 0, .int .u8 0, .int .u8 0, .int .u8 0, .int .u8 0, .int .u8 0, .int .u8 0, .int .u8 0, .bool false, .int .u8 0, .int .u8 0, .int .u8 0, .int .u8 0, .int .u8 0, .int .u8 0, .int .u8 0, .int .u8 0, .int .u8 0, .int .u8 0, .int .u8 0, .int .u8 0, .int .u8 0, .int .u8 0, .int .u8 0, .int .u8 0, .int .u16 0, .int .u16 0, .int .u8 0] : Array Value)) := zv
  have wa := Lib.hid (show IntKind.i64.wrap (66 + (la : Int)) = (en : Int) by rw [IntKind.wrap_i64]; omega)
  obtain ⟨m, hm⟩ : ∃ m, m = F.length := ⟨_, rfl⟩
  have wb := Lib.hid (show IntKind.i64.wrap ((en : Int) + (pad : Int)) = (m : Int) by rw [IntKind.wrap_i64]; omega)
  rw [← hm] at CB
  have K := Lib.hid (Below.refl w.heap.size w)
  have HR := Lib.hid hr
  have hd1 : decide ((500 : Int) < (la : Int)) = false := decide_eq_false (by omega)
  have hd2 : decide ((pad : Int) < 0) = false := decide_eq_false (by omega)
  have hd3 : decide ((50 : Int) < (pad : Int)) = false := decide_eq_false (by omega)
  clear T hlt hlen hvw zk zv hen hu hr hm hL hna hb
  go_enter Try.func4, Try.ntmps4
  go_wp2_with fail
  refine (CK.out _).mono ?_
  rintro e V1 ⟨rfl, hy⟩
  replace K := Lib.hid (K.out.trans (hy.mono K.out.size))
  clear hy
  go_wp2_with (((with_reducible refine wpList_blk_store (op := ⟨none, .store 29 (.tmp 17) (.tmp 39), _, _, _, _⟩) ?sg43 29 (.tmp 17) (.tmp 39) ?so43 (V1.heap.size) kc ?sx43 ?sy43 (Blk.new V1 29 #[Value.int .u8 0, .bool false, .int .u8 0, .int .u8 0, .int .u8 0, .int .u8 0, .int .u8 0, .int .u8 0, .int .u8 0, .int .u8 0, .int .u8 0, .int .u8 0, .int .u8 0, .int .u8 0, .int .u8 0, .int .u8 0, .int .u8 0, .int .u8 0, .bool false, .int .u8 0, .int .u8 0, .int .u8 0, .int .u8 0, .int .u8 0, .int .u8 0, .int .u8 0, .int .u8 0, .int .u8 0, .int .u8 0, .int .u8 0, .int .u8 0, .int .u8 0, .int .u8 0, .int .u8 0, .int .u8 0, .int .u16 0, .int .u16 0]) Yk.out Zk.out Ak.out ?_); (case sg43 => rfl); (case so43 => rfl); (case sx43 => rfl); (case sy43 => rfl)))
  intro V2 hA hF hB
  have hy := ((Below.refl V1.heap.size V1).alloc (Nat.le_refl _) (.cells #[Value.int .u8 0, .bool false, .int .u8 0, .int .u8 0, .int .u8 0, .int .u8 0, .int .u8 0, .int .u8 0, .int .u8 0, .int .u8 0, .int .u8 0, .int .u8 0, .int .u8 0, .int .u8 0, .int .u8 0, .int .u8 0, .int .u8 0, .int .u8 0, .bool false, .int .u8 0, .int .u8 0, .int .u8 0, .int .u8 0, .int .u8 0, .int .u8 0, .int .u8 0, .int .u8 0, .int .u8 0, .int .u8 0, .int .u8 0, .int .u8 0, .int .u8 0, .int .u8 0, .int .u8 0, .int .u8 0, .int .u16 0, .int .u16 0] 29)).trans (hB _ (Nat.le_refl _))
  replace K := Lib.hid (K.out.trans (hy.mono K.out.size))
  have NK := Lib.hid hA
  clear hA hF hB hy
  clear hd1 hd2 hd3
  have L44 : (loadVar 29 ⟨V1.heap.size, 0, none⟩).run Try.prog V2 = .ok (.agg kc) V2 := run_blk_load (P := Try.prog) 29 (V1.heap.size) _ NK.out Try.underlying29 rfl Zk.out
  replace L44 := Lib.hid L44
  go_wp2_with (((with_reducible refine wpList_load_want (op := ⟨some 40, .load 29 (.tmp 17), _, _, _, _⟩) ?wg44 29 (.tmp 17) ?wo44 ⟨V1.heap.size, 0, none⟩ ?wx44 (.agg kc) L44.out ?_); (case wg44 => rfl); (case wo44 => rfl); (case wx44 => rfl)))
  clear L44
  refine (CB.out _ (HR.out.below K.out)).mono ?_
  rintro e V3 ⟨g, c, rfl, ho, hy⟩
  replace K := Lib.hid (K.out.trans (hy.mono K.out.size))
  replace NK := Lib.hid (NK.out.below hy NK.out.lt)
  have R := Lib.hid (Rd.own ho)
  clear ho
  clear hy
  go_wp2_with fail
  refine (CR.out _ _ R.out).mono ?_
  rintro e V4 ⟨rfl, hy⟩
  replace K := Lib.hid (K.out.trans (hy.mono K.out.size))
  replace NK := Lib.hid (NK.out.below hy NK.out.lt)
  replace R := Lib.hid (R.out.below hy)
  clear hy
  go_wp2_with (((with_reducible refine wpList_blk_store (op := ⟨none, .store 31 (.tmp 19) (.tmp 50), _, _, _, _⟩) ?sg45 31 (.tmp 19) (.tmp 50) ?so45 (V4.heap.size) VA ?sx45 ?sy45 (Blk.new V4 31 #[Value.bool false, .int .i64 0, .int .i64 0, .int .i64 0, .int .u8 0, .bool false, .int .u8 0, .int .u8 0, .int .u8 0, .int .u8 0, .int .u8 0, .int .u8 0, .int .u8 0, .int .u8 0, .int .u8 0, .int .u8 0, .int .u8 0, .int .u8 0, .int .u8 0, .int .u8 0, .int .u8 0, .int .u8 0, .bool false, .int .u8 0, .int .u8 0, .int .u8 0, .int .u8 0, .int .u8 0, .int .u8 0, .int .u8 0, .int .u8 0, .int .u8 0, .int .u8 0, .int .u8 0, .int .u8 0, .int .u8 0, .int .u8 0, .int .u8 0, .int .u8 0, .int .u16 0, .int .u16 0, .int .u8 0]) Yv.out Zv.out Av.out ?_); (case sg45 => rfl); (case so45 => rfl); (case sx45 => rfl); (case sy45 => rfl)))
  have qNKHX : V1.heap.size < V4.heap.size := NK.out.lt
  intro V5 hA hF hB
  have hy := ((Below.refl V4.heap.size V4).alloc (Nat.le_refl _) (.cells #[Value.bool false, .int .i64 0, .int .i64 0, .int .i64 0, .int .u8 0, .bool false, .int .u8 0, .int .u8 0, .int .u8 0, .int .u8 0, .int .u8 0, .int .u8 0, .int .u8 0, .int .u8 0, .int .u8 0, .int .u8 0, .int .u8 0, .int .u8 0, .int .u8 0, .int .u8 0, .int .u8 0, .int .u8 0, .bool false, .int .u8 0, .int .u8 0, .int .u8 0, .int .u8 0, .int .u8 0, .int .u8 0, .int .u8 0, .int .u8 0, .int .u8 0, .int .u8 0, .int .u8 0, .int .u8 0, .int .u8 0, .int .u8 0, .int .u8 0, .int .u8 0, .int .u16 0, .int .u16 0, .int .u8 0] 31)).trans (hB _ (Nat.le_refl _))
  replace K := Lib.hid (K.out.trans (hy.mono K.out.size))
  replace NK := Lib.hid (NK.out.below hy NK.out.lt)
  replace R := Lib.hid (R.out.below hy)
  have HX := Lib.hid hA
  clear hA hF hB hy
  have wa1 := wa.out
  have wb1 := wb.out
  have L46 : (loadVar 31 ⟨V4.heap.size, 0, none⟩).run Try.prog V5 = .ok (.agg VA) V5 := run_blk_load (P := Try.prog) 31 (V4.heap.size) _ HX.out Try.underlying31 rfl Zv.out
  replace L46 := Lib.hid L46
  have L47 : (loadVar 29 ⟨V1.heap.size, 0, none⟩).run Try.prog V5 = .ok (.agg kc) V5 := run_blk_load (P := Try.prog) 29 (V1.heap.size) _ NK.out Try.underlying29 rfl Zk.out
  replace L47 := Lib.hid L47
  go_wp2_with (first | ((with_reducible refine wpList_load_want (op := ⟨some 58, .load 31 (.tmp 19), _, _, _, _⟩) ?wg46 31 (.tmp 19) ?wo46 ⟨V4.heap.size, 0, none⟩ ?wx46 (.agg VA) L46.out ?_); (case wg46 => rfl); (case wo46 => rfl); (case wx46 => rfl)) | ((with_reducible refine wpList_load_want (op := ⟨some 72, .load 29 (.tmp 17), _, _, _, _⟩) ?wg47 29 (.tmp 17) ?wo47 ⟨V1.heap.size, 0, none⟩ ?wx47 (.agg kc) L47.out ?_); (case wg47 => rfl); (case wo47 => rfl); (case wx47 => rfl)) | ((with_reducible refine wpList_built2 (op := ⟨some 74, .build 31 #[(0, Operand.tmp 59), (1, Operand.tmp 60), (2, Operand.tmp 63), (3, Operand.tmp 71), (4, Operand.tmp 72), (5, Operand.tmp 73)], _, _, _, _⟩) ?wg74 31 #[(0, Operand.tmp 59), (1, Operand.tmp 60), (2, Operand.tmp 63), (3, Operand.tmp 71), (4, Operand.tmp 72), (5, Operand.tmp 73)] ?wo74 #[(0, .bool true), (1, .int .i64 18), (2, .int .i64 58), (3, .int .i64 (en : Int)), (4, .agg kc), (5, .int .u8 0)] ?wv74 VA ?wf74 ?_); (case wg74 => rfl); (case wo74 => rfl); (case wv74 => kernel_rfl); (case wf74 => exact BV.out)))
  clear L46 L47
  refine (CG.out _ _ R.out).mono ?_
  rintro e V6 ⟨rfl, hy⟩
  replace K := Lib.hid (K.out.trans (hy.mono K.out.size))
  replace NK := Lib.hid (NK.out.below hy NK.out.lt)
  replace R := Lib.hid (R.out.below hy)
  replace HX := Lib.hid (HX.out.below hy HX.out.lt)
  clear hy
  have L48 := (HX.out.cell 3).trans H3.out
  go_wp2_with fail
  clear L48
  refine (awake_any _).mono ?_
  rintro e V7 ⟨rfl, hy⟩
  replace K := Lib.hid (K.out.trans (hy.mono K.out.size))
  replace NK := Lib.hid (NK.out.below hy NK.out.lt)
  replace R := Lib.hid (R.out.below hy)
  replace HX := Lib.hid (HX.out.below hy HX.out.lt)
  clear hy
  go_wp2
  go_ret
  exact ⟨rfl, K.out⟩

set_option maxRecDepth 100000 in
set_option maxHeartbeats 1000000 in
theorem built_off (n : Int) (v udp : Bool) (f : Int) (a : Option Addr) (la ca : Nat) (tag bare : Bool) (pad : Int) (w : World) (h : 500 < la ∨ pad < 0 ∨ 50 < pad) :
    Calls Try.prog 4 #[.int .i64 n, .bool v, .bool udp, .int .u8 f, .slice a la ca, .bool tag, .bool bare, .int .i64 pad] w fun e w' => e = .returned (.bool true) ∧ Below w.heap.size w w' := by
  by_cases h1 : 500 < la
  · have hd1 : decide ((500 : Int) < (la : Int)) = true := decide_eq_true (by omega)
    clear h h1
    go_enter Try.func4, Try.ntmps4
    go_wp2_with fail
    refine (awake_any _).mono ?_
    rintro e w1 ⟨rfl, hy⟩
    go_wp2
    go_ret
    exact ⟨rfl, hy⟩
  have hd1 : decide ((500 : Int) < (la : Int)) = false := decide_eq_false (by omega)
  by_cases h2 : pad < 0
  · have hd2 : decide (pad < 0) = true := decide_eq_true h2
    clear h h1 h2
    go_enter Try.func4, Try.ntmps4
    go_wp2_with fail
    refine (awake_any _).mono ?_
    rintro e w1 ⟨rfl, hy⟩
    go_wp2
    go_ret
    exact ⟨rfl, hy⟩
  have hd2 : decide (pad < 0) = false := decide_eq_false h2
  have hd3 : decide (50 < pad) = true := decide_eq_true (by omega)
  clear h h1 h2
  go_enter Try.func4, Try.ntmps4
  go_wp2_with fail
  refine (awake_any _).mono ?_
  rintro e w1 ⟨rfl, hy⟩
  go_wp2
  go_ret
  exact ⟨rfl, hy⟩
theorem built_walk (n : Int) (v udp : Bool) (f : Nat) (a : Option Addr) (la ca : Nat) (zs : List Nat) (tag bare : Bool) (pad : Int) (w : World) (hr : Rd w (.slice a la ca) (nus .u8 zs)) (hL : zs.length = la) (hna : a = none → ca = 0) (hb : ∀ c ∈ zs, c < 256) (hf : f < 256) :
    Calls Try.prog 4 #[.int .i64 n, .bool v, .bool udp, .int .u8 (f : Int), .slice a la ca, .bool tag, .bool bare, .int .i64 pad] w fun e w' => e = .returned (.bool true) ∧ Below w.heap.size w w' := by
  by_cases h : 500 < la ∨ pad < 0 ∨ 50 < pad
  · exact built_off n v udp f a la ca tag bare pad w h
  obtain ⟨q, rfl⟩ := Int.eq_ofNat_of_zero_le (show 0 ≤ pad by omega)
  cases tag <;> cases v <;> cases udp
  · exact built_fff n f a la ca zs bare q w hr hL hna hb (by omega) hf (by omega)
  · exact built_fft n f a la ca zs bare q w hr hL hna hb (by omega) hf (by omega)
  · exact built_ftf n f a la ca zs bare q w hr hL hna hb (by omega) hf (by omega)
  · exact built_ftt n f a la ca zs bare q w hr hL hna hb (by omega) hf (by omega)
  · exact built_tff n f a la ca zs bare q w hr hL hna hb (by omega) hf (by omega)
  · exact built_tft n f a la ca zs bare q w hr hL hna hb (by omega) hf (by omega)
  · exact built_ttf n f a la ca zs bare q w hr hL hna hb (by omega) hf (by omega)
  · exact built_ttt n f a la ca zs bare q w hr hL hna hb (by omega) hf (by omega)
end Go.Proofs.Ytopfbgoiehlhbaa

