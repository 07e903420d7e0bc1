/- Texts that the walks of this seat lean on, put together. -/
import Derived.StillTailTactics
import Derived.Deep.CutBlock
import Derived.Deep.DeepCutAuto
import Derived.LoopTactic
import Derived.Handy
import Derived.Test.YtcgaibkpdihncaaDoorTk
import Derived.Test.YtcgaibkpdihncaaDoorM35
namespace Go.Proofs.YtcgaibkpdihncaaDoor
open Go.RowKit Go.Lib
theorem has_next (N : Nat) (l : List Nat) (j M : Nat) (h : j < l.length) (hh : hasB N (l.take j) M = true) : hasB N (l.take (j + 1)) M = M.testBit (l.getD j 0 % N) := by
  rw [List.take_add_one, List.getElem?_eq_getElem h, Option.toList_some, hasB_snoc, hh, Bool.true_and, List.getD_eq_getElem?_getD, List.getElem?_eq_getElem h, Option.getD_some]
theorem has_stop (N : Nat) (l : List Nat) (j M : Nat) (h : hasB N (l.take j) M = false) : hasB N l M = false := by
  unfold hasB at h ⊢
  rw [List.all_eq_false] at h ⊢
  obtain ⟨x, hx, q⟩ := h
  exact ⟨x, List.mem_of_mem_take hx, q⟩
theorem plcL_get (c : Cf) (k : Fl) (N j : Nat) (h : j < (btN c k).length) : (plcL c k N).getD j 0 = (btN c k).getD j 0 % N := by
  unfold plcL
  rw [List.getD_eq_getElem?_getD, List.getElem?_map, List.getD_eq_getElem?_getD, List.getElem?_eq_getElem h]; rfl
theorem bit_and (M q r p : Nat) (hr : r = p % 64) : bits .and .u64 ((wrd M q : Nat) : Int) ((2 ^ r : Nat) : Int) = ((wrd M q &&& 2 ^ r : Nat) : Int) :=
  u64_and_nat _ _ (wrd_lt M q) (by
    have : 2 ^ r < 2 ^ 64 := Nat.pow_lt_pow_right (by decide) (by omega)
    exact this)
theorem bit_is (M q r p : Nat) (hq : q = p / 64) (hr : r = p % 64) : (((wrd M q &&& 2 ^ r : Nat) : Int) == 0) = !M.testBit p := by
  have := has_bit M p
  rw [← hq, ← hr] at this
  rw [← this, Bool.eq_iff_iff, beq_iff_eq, decide_eq_true_iff]
  omega
theorem bit_or (M q r : Nat) (hr : r < 64) : bits .or .u64 ((wrd M q : Nat) : Int) ((2 ^ r : Nat) : Int) = ((wrd M q ||| 2 ^ r : Nat) : Int) :=
  u64_or_nat _ _ (wrd_lt M q) (show 2 ^ r < 2 ^ 64 from Nat.pow_lt_pow_right (by decide) hr)
set_option maxRecDepth 100000 in
set_option maxHeartbeats 4000000 in
theorem has_nil (k : Fl) (hk : k.Fit) (w : World) :
    Calls Tryd.prog 15 #[.pointer none, .agg k.cs] w fun e w' => e = .returned (.bool false) ∧ Below w.heap.size w w' := by
  have K := Lib.hid (Below.refl w.heap.size w)
  have CP := Lib.hid (fun W => places_nil k hk W)
  obtain ⟨a0, a1, a18, a35, a36⟩ := fl_get k hk
  have G0 := Lib.hid a0
  have G1 := Lib.hid a1
  have G18 := Lib.hid a18
  have G35 := Lib.hid a35
  have G36 := Lib.hid a36
  have KP1 := Lib.hid (fl_src k)
  have KP2 := Lib.hid (fl_dst k hk)
  have IS := Lib.hid (fl_is k hk)
  have ID := Lib.hid (fl_id k hk)
  have IK := Lib.hid (fl_ik k hk)
  clear a0 a1 a18 a35 a36
  generalize k.cs = kc at *
  generalize cellsA k.sv k.S = S at *
  generalize cellsA k.dv k.D = D at *
  generalize k.p = p at *
  generalize k.sv = sv at *
  generalize k.dv = dv at *
  generalize k.sp = sp at *
  generalize k.dp = dp at *
  clear hk
  go_enter Tryd.func15, Tryd.ntmps15
  have hal := (Below.refl w.heap.size w).alloc (Nat.le_refl _) (.cells kc 43)
  replace K := Lib.hid (K.out.trans (hal.mono K.out.size))
  have NB := Lib.hid (Blk.new w 43 kc)
  clear hal
  have L1 : (loadVar 43 ⟨w.heap.size, 0, none⟩).run Tryd.prog (w.alloc (.cells kc 43)) = .ok (.agg kc) (w.alloc (.cells kc 43)) := run_blk_load (P := Tryd.prog) 43 (w.heap.size) _ NB.out Tryd.underlying43 rfl IK.out
  replace L1 := Lib.hid L1
  go_wp2_with (((with_reducible refine wpList_load_want (op := ⟨some 11, .load 43 (.tmp 3), _, _, _, _⟩) ?wg1 43 (.tmp 3) ?wo1 ⟨w.heap.size, 0, none⟩ ?wx1 (.agg kc) L1.out ?_); (case wg1 => rfl); (case wo1 => rfl); (case wx1 => rfl)))
  clear L1
  have hzV1 : Hid ((w.alloc (.cells kc 43)).heap.size = w.heap.size + 1) := by show _ = _; simp only [World.size_alloc]
  generalize (w.alloc (.cells kc 43)) = V1 at *
  refine (CP.out V1).mono ?_
  rintro e V2 ⟨rfl, hy⟩
  replace K := Lib.hid (K.out.trans (hy.mono K.out.size))
  replace NB := Lib.hid (NB.out.below hy NB.out.lt)
  clear hy
  go_wp2
  go_loopw [15] (fun i wr => i = .int .i64 0 ∧ Hid (Below w.heap.size w wr)) (fun _ _ => 0)
  case atStart => exact ⟨rfl, K⟩
  case round =>
    obtain ⟨rfl, Kr⟩ := hrel
    go_wp2
    go_ret
    exact ⟨rfl, Kr.out⟩
set_option maxRecDepth 100000 in
set_option maxHeartbeats 4000000 in
theorem has_yes (c : Cf) (hc : c.Fit) (hok : okC c = true) (k : Fl) (hk : k.Fit) (gf gF gW N L M : Nat) (h0 : 0 < N) (hN : N ≤ 65536) (hL : N ≤ 64 * L) (hv : vK k = true) (w : World) (hF : Blk w gf 60 (famC c)) (hB : Blk w gF 66 (flt gf N gW L)) (hW : Blk w gW 70 (nus .u64 (wrds M L)).toArray) :
    Calls Tryd.prog 15 #[.pointer (some ⟨gF, 0, none⟩), .agg k.cs] w fun e w' => e = .returned (.bool (hasB N (btN c k) M)) ∧ Below w.heap.size w w' := by
  have K := Lib.hid (Below.refl w.heap.size w)
  have F := Lib.hid hF
  have B := Lib.hid hB
  have Z := Lib.hid hW
  obtain ⟨fb0, fb1, fb2⟩ := flt_get gf N gW L
  have FB0 := Lib.hid fb0
  have FB1 := Lib.hid fb1
  have FB2 := Lib.hid fb2
  clear fb0 fb1 fb2
  have CP := Lib.hid (fun W h1 h2 => places_yes c hc hok k hk gf gF gW N L h0 hN hv W h1 h2)
  have hlb := btN_len_yes (c := c) hv
  obtain ⟨b1, b2⟩ := okC_hs hok
  have hbn : 1 ≤ (btN c k).length ∧ (btN c k).length ≤ 4 := by omega
  rw [← hlb] at CP
  have HP := Lib.hid (plcL_get c k N)
  have hpl := plcL_len c k N
  generalize plcL c k N = ps at *
  generalize btN c k = bs at *
  obtain ⟨a0, a1, a18, a35, a36⟩ := fl_get k hk
  have G0 := Lib.hid a0
  have G1 := Lib.hid a1
  have G18 := Lib.hid a18
  have G35 := Lib.hid a35
  have G36 := Lib.hid a36
  have KP1 := Lib.hid (fl_src k)
  have KP2 := Lib.hid (fl_dst k hk)
  have IS := Lib.hid (fl_is k hk)
  have ID := Lib.hid (fl_id k hk)
  have IK := Lib.hid (fl_ik k hk)
  clear a0 a1 a18 a35 a36
  generalize k.cs = kc at *
  generalize cellsA k.sv k.S = S at *
  generalize cellsA k.dv k.D = D at *
  generalize k.p = p at *
  generalize k.sv = sv at *
  generalize k.dv = dv at *
  generalize k.sp = sp at *
  generalize k.dp = dp at *
  generalize flt gf N gW L = fl at *
  generalize famC c = fc at *
  have qF : gf < w.heap.size := hF.lt
  have qB : gF < w.heap.size := hB.lt
  have qW : gW < w.heap.size := hW.lt
  obtain ⟨n, hn⟩ : ∃ n, n = bs.length := ⟨_, rfl⟩
  rw [← hn] at hbn hpl CP HP
  have HNL := Lib.hid hn
  clear hk hv hF hB hW hc hok b1 b2 hlb hn
  go_enter Tryd.func15, Tryd.ntmps15
  have hal := (Below.refl w.heap.size w).alloc (Nat.le_refl _) (.cells kc 43)
  replace K := Lib.hid (K.out.trans (hal.mono K.out.size))
  replace F := Lib.hid (F.out.below hal F.out.lt)
  replace B := Lib.hid (B.out.below hal B.out.lt)
  replace Z := Lib.hid (Z.out.below hal Z.out.lt)
  have NB := Lib.hid (Blk.new w 43 kc)
  clear hal
  have L3 : (loadVar 43 ⟨w.heap.size, 0, none⟩).run Tryd.prog (w.alloc (.cells kc 43)) = .ok (.agg kc) (w.alloc (.cells kc 43)) := run_blk_load (P := Tryd.prog) 43 (w.heap.size) _ NB.out Tryd.underlying43 rfl IK.out
  replace L3 := Lib.hid L3
  go_wp2_with (((with_reducible refine wpList_load_want (op := ⟨some 11, .load 43 (.tmp 3), _, _, _, _⟩) ?wg3 43 (.tmp 3) ?wo3 ⟨w.heap.size, 0, none⟩ ?wx3 (.agg kc) L3.out ?_); (case wg3 => rfl); (case wo3 => rfl); (case wx3 => rfl)))
  clear L3
  have hzV1 : Hid ((w.alloc (.cells kc 43)).heap.size = w.heap.size + 1) := by show _ = _; simp only [World.size_alloc]
  generalize (w.alloc (.cells kc 43)) = V1 at *
  refine (CP.out V1 F.out B.out).mono ?_
  rintro e V2 ⟨gB, rfl, hgB, hx, hy⟩
  replace K := Lib.hid (K.out.trans (hy.mono K.out.size))
  replace F := Lib.hid (F.out.below hy F.out.lt)
  replace B := Lib.hid (B.out.below hy B.out.lt)
  replace Z := Lib.hid (Z.out.below hy Z.out.lt)
  replace NB := Lib.hid (NB.out.below hy NB.out.lt)
  have X := Lib.hid (hx)
  clear hx
  clear hy
  go_wp2
  go_loopw [15] (fun i wr => ∃ j : Nat, j ≤ n ∧ i = .int .i64 (j : Int) ∧ Hid (hasB N (bs.take j) M = true) ∧ Hid (Blk wr gB 3 (nus .i64 ps).toArray) ∧ Hid (Blk wr gF 66 fl) ∧ Hid (Blk wr gW 70 (nus .u64 (wrds M L)).toArray) ∧ Hid (Below w.heap.size w wr)) (fun i _ => n - (RowKit.intOf i).toNat)
  case atStart => exact ⟨0, by omega, rfl, rfl, X, B, Z, K⟩
  case round =>
    obtain ⟨j, hj, rfl, HM, Xr, Br, Zr, Kr⟩ := hrel
    clear F B Z X K NB
    by_cases hlt : j < n
    · have d8 : decide ((j : Int) < (n : Int)) = true := decide_eq_true (by omega)
      have d9 : decide (j < n) = true := decide_eq_true (by omega)
      have hb2 : 0 ≤ (j : Int) ∧ (j : Int) < (n : Int) := by omega
      have HN := Lib.hid (has_next N bs j M (by have := HNL.out; omega) HM.out)
      have HG := Lib.hid (HP.out j hlt)
      rw [← HG.out] at HN
      have hpb : ps.getD j 0 < N := by rw [HG.out]; exact Nat.mod_lt _ h0
      have c3 := Xr.out.cell j
      rw [nusa_at _ _ _ (by omega)] at c3
      generalize ps.getD j 0 = p at *
      clear HG
      have CS := Lib.hid (fun W => spot_any p (by omega) W)
      obtain ⟨q, hq⟩ : ∃ q, q = p / 64 := ⟨_, rfl⟩
      obtain ⟨r, hr⟩ : ∃ r, r = p % 64 := ⟨_, rfl⟩
      have hqL : q < L := by omega
      have A1 := Lib.hid (bit_and M q r p hr)
      have A2 := Lib.hid (bit_is M q r p hq hr)
      rw [← hq, ← hr] at CS
      have HW := Lib.hid (wrds_get M L q hqL)
      have HL := Lib.hid (wrds_len M L)
      generalize wrd M q = x at *
      generalize 2 ^ r = z at *
      generalize wrds M L = ws at *
      generalize x &&& z = y at *
      generalize M.testBit p = bt at *
      clear hq hr
      go_wp2_with fail
      refine (CS.out wr).mono ?_
      rintro e V4 ⟨rfl, hy⟩
      replace Xr := Lib.hid (Xr.out.below hy Xr.out.lt)
      replace Br := Lib.hid (Br.out.below hy Br.out.lt)
      replace Zr := Lib.hid (Zr.out.below hy Zr.out.lt)
      replace Kr := Lib.hid (Kr.out.trans (hy.mono Kr.out.size))
      clear hy
      have cw := Zr.out.cell q
      rw [nusa_at _ _ _ (by rw [HL.out]; exact hqL), HW.out] at cw
      have a1 := A1.out
      have a2 := A2.out
      have hb3 : 0 ≤ (q : Int) ∧ (q : Int) < (L : Int) := by omega
      have L4 := (Br.out.cell 2).trans FB2.out
      cases bt with
      | false =>
        have HS := Lib.hid (has_stop N bs (j + 1) M HN.out)
        go_wp2
        go_ret
        exact ⟨by rw [HS.out]; rfl, Kr.out⟩
      | true =>
        go_wp2
        go_roundw
        case rel => exact ⟨j + 1, Nat.succ_le_of_lt hlt, by go_num, HN, Xr, Br, Zr, Kr⟩
        case measure => simp [RowKit.intOf]; omega
    · obtain rfl : j = n := by omega
      have d8 : decide (((j : Nat) : Int) < (j : Int)) = false := decide_eq_false (by omega)
      have d9 : decide (j < j) = false := decide_eq_false (by omega)
      have d7 : decide ((j : Int) > 0) = true := decide_eq_true (by omega)
      have d6 : decide (0 < j) = true := decide_eq_true (by omega)
      have HA : Hid (hasB N bs M = true) := by show _ = _; have := HM.out; rwa [HNL.out, List.take_length] at this
      go_wp2
      go_ret
      exact ⟨by rw [HA.out]; rfl, Kr.out⟩
end Go.Proofs.YtcgaibkpdihncaaDoor
