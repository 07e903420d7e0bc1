/- Texts that the walks of this seat lean on, put together. -/
import Derived.StillTailTactics
import Derived.Deep.CutBlock
import Derived.Deep.DeepCutAuto
import Derived.Maps.RangeWalk
import Derived.LoopTactic
import Derived.Handy
import Derived.Test.YtcgaibkpdihncaaDoorTk
import Derived.Test.YtcgaibkpdihncaaDoorM10
import Derived.Test.YtcgaibkpdihncaaDoorM36
namespace Go.Proofs.YtcgaibkpdihncaaDoor
open Go.RowKit Go.Lib
theorem gb_of {A B : World} (h : Below A.heap.size A B) (g : Nat) : A.grownBy B (some g) := (grown_of_below h).but _
theorem gb_below {A B C : World} {g : Nat} (h : A.grownBy B (some g)) (k : Below B.heap.size B C) : A.grownBy C (some g) := grownBy_trans h (gb_of k g)
theorem gb_set {A B : World} {g : Nat} (h : A.grownBy B (some g)) (i : Nat) (v : Value) : A.grownBy (B.setCell ⟨g, i, none⟩ v) (some g) :=
  grownBy_trans h ⟨rfl, rfl, rfl, by show _ ≤ (B.heap.modify _ _).size; rw [Array.size_modify]; exact Nat.le_refl _, fun k _ hk => Below.heap_setCell _ _ _ k (fun e => hk (by rw [e]))⟩
theorem ins_next (N : Nat) (l : List Nat) (j M : Nat) (h : j < l.length) : insB N (l.take (j + 1)) M = put1 (insB N (l.take j) M) (l.getD j 0 % N) ∧ (!hasB N (l.take (j + 1)) M) = (!hasB N (l.take j) M || !(insB N (l.take j) M).testBit (l.getD j 0 % N)) := by
  rw [List.take_add_one, List.getElem?_eq_getElem h, Option.toList_some, List.getD_eq_getElem?_getD, List.getElem?_eq_getElem h, Option.getD_some]
  exact ⟨insB_snoc _ _ _ _, fresh_next _ _ _ _⟩
set_option maxRecDepth 100000 in
set_option maxHeartbeats 4000000 in
theorem ins_nil (k : Fl) (hk : k.Fit) (w : World) :
    Calls Tryd.prog 13 #[.pointer none, .agg k.cs] w fun e w' => e = .returned (.bool false) ∧ Below w.heap.size w w' := by
  have K := Lib.hid (Below.refl w.heap.size w)
  have CP := Lib.hid (fun W => places_nil k hk W)
  obtain ⟨a0, a1, a18, a35, a36⟩ := fl_get k hk
  have G0 := Lib.hid a0
  have G1 := Lib.hid a1
  have G18 := Lib.hid a18
  have G35 := Lib.hid a35
  have G36 := Lib.hid a36
  have KP1 := Lib.hid (fl_src k)
  have KP2 := Lib.hid (fl_dst k hk)
  have IS := Lib.hid (fl_is k hk)
  have ID := Lib.hid (fl_id k hk)
  have IK := Lib.hid (fl_ik k hk)
  clear a0 a1 a18 a35 a36
  generalize k.cs = kc at *
  generalize cellsA k.sv k.S = S at *
  generalize cellsA k.dv k.D = D at *
  generalize k.p = p at *
  generalize k.sv = sv at *
  generalize k.dv = dv at *
  generalize k.sp = sp at *
  generalize k.dp = dp at *
  clear hk
  go_enter Tryd.func13, Tryd.ntmps13
  have hal := (Below.refl w.heap.size w).alloc (Nat.le_refl _) (.cells kc 43)
  replace K := Lib.hid (K.out.trans (hal.mono K.out.size))
  have NB := Lib.hid (Blk.new w 43 kc)
  clear hal
  have L5 : (loadVar 43 ⟨w.heap.size, 0, none⟩).run Tryd.prog (w.alloc (.cells kc 43)) = .ok (.agg kc) (w.alloc (.cells kc 43)) := run_blk_load (P := Tryd.prog) 43 (w.heap.size) _ NB.out Tryd.underlying43 rfl IK.out
  replace L5 := Lib.hid L5
  go_wp2_with (((with_reducible refine wpList_load_want (op := ⟨some 11, .load 43 (.tmp 3), _, _, _, _⟩) ?wg5 43 (.tmp 3) ?wo5 ⟨w.heap.size, 0, none⟩ ?wx5 (.agg kc) L5.out ?_); (case wg5 => rfl); (case wo5 => rfl); (case wx5 => rfl)))
  clear L5
  have hzV1 : Hid ((w.alloc (.cells kc 43)).heap.size = w.heap.size + 1) := by show _ = _; simp only [World.size_alloc]
  generalize (w.alloc (.cells kc 43)) = V1 at *
  refine (CP.out V1).mono ?_
  rintro e V2 ⟨rfl, hy⟩
  replace K := Lib.hid (K.out.trans (hy.mono K.out.size))
  replace NB := Lib.hid (NB.out.below hy NB.out.lt)
  clear hy
  go_wp2
  go_loopw [14, 5] (fun i an wr => i = .int .i64 0 ∧ an = .bool false ∧ Hid (Below w.heap.size w wr)) (fun _ _ _ => 0)
  case atStart => exact ⟨rfl, rfl, K⟩
  case round =>
    obtain ⟨rfl, rfl, Kr⟩ := hrel
    go_wp2
    go_ret
    exact ⟨rfl, Kr.out⟩
set_option maxRecDepth 100000 in
set_option maxHeartbeats 4000000 in
theorem ins_yes (c : Cf) (hc : c.Fit) (hok : okC c = true) (k : Fl) (hk : k.Fit) (gf gF gW N L M : Nat) (h0 : 0 < N) (hN : N ≤ 65536) (hL : N ≤ 64 * L) (hv : vK k = true) (hd1 : gW ≠ gF) (w : World) (hF : Blk w gf 60 (famC c)) (hB : Blk w gF 66 (flt gf N gW L)) (hW : Blk w gW 70 (nus .u64 (wrds M L)).toArray) :
    Calls Tryd.prog 13 #[.pointer (some ⟨gF, 0, none⟩), .agg k.cs] w fun e w' => e = .returned (.bool (!hasB N (btN c k) M)) ∧ Blk w' gW 70 (nus .u64 (wrds (insB N (btN c k) M) L)).toArray ∧ w.grownBy w' (some gW) := by
  have K := Lib.hid (Below.refl w.heap.size w)
  have F := Lib.hid hF
  have B := Lib.hid hB
  have Z := Lib.hid hW
  obtain ⟨fb0, fb1, fb2⟩ := flt_get gf N gW L
  have FB0 := Lib.hid fb0
  have FB1 := Lib.hid fb1
  have FB2 := Lib.hid fb2
  clear fb0 fb1 fb2
  have CP := Lib.hid (fun W h1 h2 => places_yes c hc hok k hk gf gF gW N L h0 hN hv W h1 h2)
  have hlb := btN_len_yes (c := c) hv
  obtain ⟨b1, b2⟩ := okC_hs hok
  have hbn : 1 ≤ (btN c k).length ∧ (btN c k).length ≤ 4 := by omega
  rw [← hlb] at CP
  have HP := Lib.hid (plcL_get c k N)
  have hpl := plcL_len c k N
  generalize plcL c k N = ps at *
  generalize btN c k = bs at *
  obtain ⟨a0, a1, a18, a35, a36⟩ := fl_get k hk
  have G0 := Lib.hid a0
  have G1 := Lib.hid a1
  have G18 := Lib.hid a18
  have G35 := Lib.hid a35
  have G36 := Lib.hid a36
  have KP1 := Lib.hid (fl_src k)
  have KP2 := Lib.hid (fl_dst k hk)
  have IS := Lib.hid (fl_is k hk)
  have ID := Lib.hid (fl_id k hk)
  have IK := Lib.hid (fl_ik k hk)
  clear a0 a1 a18 a35 a36
  generalize k.cs = kc at *
  generalize cellsA k.sv k.S = S at *
  generalize cellsA k.dv k.D = D at *
  generalize k.p = p at *
  generalize k.sv = sv at *
  generalize k.dv = dv at *
  generalize k.sp = sp at *
  generalize k.dp = dp at *
  generalize flt gf N gW L = fl at *
  generalize famC c = fc at *
  have qF : gf < w.heap.size := hF.lt
  have qB : gF < w.heap.size := hB.lt
  have qW : gW < w.heap.size := hW.lt
  obtain ⟨n, hn⟩ : ∃ n, n = bs.length := ⟨_, rfl⟩
  rw [← hn] at hbn hpl CP HP
  have HNL := Lib.hid hn
  clear hk hv hF hB hW hc hok b1 b2 hlb hn
  go_enter Tryd.func13, Tryd.ntmps13
  have hal := (Below.refl w.heap.size w).alloc (Nat.le_refl _) (.cells kc 43)
  replace K := Lib.hid (K.out.trans (hal.mono K.out.size))
  replace F := Lib.hid (F.out.below hal F.out.lt)
  replace B := Lib.hid (B.out.below hal B.out.lt)
  replace Z := Lib.hid (Z.out.below hal Z.out.lt)
  have NB := Lib.hid (Blk.new w 43 kc)
  clear hal
  have L7 : (loadVar 43 ⟨w.heap.size, 0, none⟩).run Tryd.prog (w.alloc (.cells kc 43)) = .ok (.agg kc) (w.alloc (.cells kc 43)) := run_blk_load (P := Tryd.prog) 43 (w.heap.size) _ NB.out Tryd.underlying43 rfl IK.out
  replace L7 := Lib.hid L7
  go_wp2_with (((with_reducible refine wpList_load_want (op := ⟨some 11, .load 43 (.tmp 3), _, _, _, _⟩) ?wg7 43 (.tmp 3) ?wo7 ⟨w.heap.size, 0, none⟩ ?wx7 (.agg kc) L7.out ?_); (case wg7 => rfl); (case wo7 => rfl); (case wx7 => rfl)))
  clear L7
  have hzV1 : Hid ((w.alloc (.cells kc 43)).heap.size = w.heap.size + 1) := by show _ = _; simp only [World.size_alloc]
  generalize (w.alloc (.cells kc 43)) = V1 at *
  have qK1 := K.out.size
  refine (CP.out V1 F.out B.out).mono ?_
  rintro e V2 ⟨gB, rfl, hgB, hx, hy⟩
  replace K := Lib.hid (K.out.trans (hy.mono K.out.size))
  replace F := Lib.hid (F.out.below hy F.out.lt)
  replace B := Lib.hid (B.out.below hy B.out.lt)
  replace Z := Lib.hid (Z.out.below hy Z.out.lt)
  replace NB := Lib.hid (NB.out.below hy NB.out.lt)
  have X := Lib.hid (hx)
  clear hx
  clear hy
  have hB1 : gW < gB ∧ gF < gB := by omega
  go_wp2
  go_loopw [14, 5] (fun i an wr => ∃ j : Nat, j ≤ n ∧ i = .int .i64 (j : Int) ∧ an = .bool (!hasB N (bs.take j) M) ∧ Hid (Blk wr gB 3 (nus .i64 ps).toArray) ∧ Hid (Blk wr gF 66 fl) ∧ Hid (Blk wr gW 70 (nus .u64 (wrds (insB N (bs.take j) M) L)).toArray) ∧ Hid (w.grownBy wr (some gW))) (fun i _ _ => n - (RowKit.intOf i).toNat)
  case atStart => exact ⟨0, by omega, rfl, rfl, X, B, Z, Lib.hid (gb_of K.out gW)⟩
  case round =>
    obtain ⟨j, hj, rfl, rfl, Xr, Br, Zr, Kr⟩ := hrel
    clear F B Z X K NB
    by_cases hlt : j < n
    · have d8 : decide ((j : Int) < (n : Int)) = true := decide_eq_true (by omega)
      have d9 : decide (j < n) = true := decide_eq_true (by omega)
      have hb2 : 0 ≤ (j : Int) ∧ (j : Int) < (n : Int) := by omega
      have HN := Lib.hid (ins_next N bs j M (by have := HNL.out; omega))
      have HG := Lib.hid (HP.out j hlt)
      rw [← HG.out] at HN
      have hpb : ps.getD j 0 < N := by rw [HG.out]; exact Nat.mod_lt _ h0
      have c3 := Xr.out.cell j
      rw [nusa_at _ _ _ (by omega)] at c3
      generalize ps.getD j 0 = p at *
      clear HG
      have CS := Lib.hid (fun W => spot_any p (by omega) W)
      obtain ⟨M1, hM1⟩ : ∃ M1, M1 = insB N (bs.take j) M := ⟨_, rfl⟩
      rw [← hM1] at Zr HN
      obtain ⟨q, hq⟩ : ∃ q, q = p / 64 := ⟨_, rfl⟩
      obtain ⟨r, hr⟩ : ∃ r, r = p % 64 := ⟨_, rfl⟩
      have hqL : q < L := by omega
      have A1 := Lib.hid (bit_and M1 q r p hr)
      have A2 := Lib.hid (bit_is M1 q r p hq hr)
      have A3 := Lib.hid (bit_or M1 q r (by omega))
      have HPU := Lib.hid (wrds_put1 M1 p L)
      rw [← hq, ← hr] at CS HPU
      have HW := Lib.hid (wrds_get M1 L q hqL)
      have HL := Lib.hid (wrds_len M1 L)
      have HN1 := Lib.hid HN.out.1
      have HN2 := Lib.hid HN.out.2
      clear HN
      rw [← HN1.out] at HPU
      obtain ⟨M2, hM2⟩ : ∃ M2, M2 = insB N (bs.take (j + 1)) M := ⟨_, rfl⟩
      rw [← hM2] at HPU
      have HM2 := Lib.hid hM2
      clear hM2 HN1
      generalize wrd M1 q = x at *
      generalize 2 ^ r = z at *
      generalize x ||| z = u at *
      generalize wrds M1 L = ws at *
      generalize x &&& z = y at *
      generalize M1.testBit p = bt at *
      generalize (!hasB N (bs.take j) M) = an at *
      obtain ⟨an2, hn2⟩ : ∃ an2, an2 = (!hasB N (bs.take (j + 1)) M) := ⟨_, rfl⟩
      rw [← hn2] at HN2
      have HA2 := Lib.hid hn2
      clear hn2
      clear hq hr hM1
      go_wp2_with fail
      refine (CS.out wr).mono ?_
      rintro e V4 ⟨rfl, hy⟩
      replace Xr := Lib.hid (Xr.out.below hy Xr.out.lt)
      replace Br := Lib.hid (Br.out.below hy Br.out.lt)
      replace Zr := Lib.hid (Zr.out.below hy Zr.out.lt)
      replace Kr := Lib.hid (gb_below Kr.out hy)
      clear hy
      have cw := Zr.out.cell q
      rw [nusa_at _ _ _ (by rw [HL.out]; exact hqL), HW.out] at cw
      have ff := Zr.out.frozen q
      have a1 := A1.out
      have a2 := A2.out
      have a3 := A3.out
      have hb3 : 0 ≤ (q : Int) ∧ (q : Int) < (L : Int) := by omega
      have cF := (Br.out.cell 2).trans FB2.out
      have Z2 := Lib.hid (Zr.out.set_ q (.int .u64 (u : Int)))
      rw [nusa_set, ← HPU.out] at Z2
      have X2 := Lib.hid (Xr.out.far (p := ⟨gW, q, none⟩) (by show gB ≠ gW; omega) (.int .u64 (u : Int)))
      have B2 := Lib.hid (Br.out.far (p := ⟨gW, q, none⟩) (by show gF ≠ gW; omega) (.int .u64 (u : Int)))
      have K2 := Lib.hid (gb_set Kr.out q (.int .u64 (u : Int)))
      cases an with
      | true =>
        have HN3 : Hid (an2 = true) := by show _ = _; rw [HN2.out]; rfl
        go_wp2
        go_roundw
        case rel => exact ⟨j + 1, Nat.succ_le_of_lt hlt, by go_num, by rw [← HA2.out, HN3.out], X2, B2, by rw [← HM2.out]; exact Z2, K2⟩
        case measure => simp [RowKit.intOf]; omega
      | false =>
        have HN3 : Hid (an2 = !bt) := by show _ = _; rw [HN2.out]; rfl
        go_wp2
        go_roundw
        case rel => exact ⟨j + 1, Nat.succ_le_of_lt hlt, by go_num, by rw [← HA2.out, HN3.out], X2, B2, by rw [← HM2.out]; exact Z2, K2⟩
        case measure => simp [RowKit.intOf]; omega
    · obtain rfl : j = n := by omega
      have d8 : decide (((j : Nat) : Int) < (j : Int)) = false := decide_eq_false (by omega)
      have d9 : decide (j < j) = false := decide_eq_false (by omega)
      have HA : Hid (bs.take j = bs) := by show _ = _; rw [HNL.out, List.take_length]
      rw [HA.out] at Zr ⊢
      go_wp2
      go_ret
      exact ⟨rfl, Zr.out, Kr.out⟩
end Go.Proofs.YtcgaibkpdihncaaDoor
