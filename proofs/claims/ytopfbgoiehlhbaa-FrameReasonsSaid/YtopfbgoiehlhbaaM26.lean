/- Texts that the walks of this seat lean on, put together: each has its own remark below. -/
import Derived.Test.YtopfbgoiehlhbaaM01
import Derived.Test.YtopfbgoiehlhbaaM22

/- The walk of FrameCut. -/
namespace Go.Proofs.Ytopfbgoiehlhbaa
open Go.RowKit

/-- A frame that is cut off within its padding, and one that is cut off within its packet. -/
theorem cut_pad (u : Nat) (v udp : Bool) (f : Nat) (data : List Nat) (tag bare : Bool) (pad k : Nat) (_hl : data.length ≤ 1500) (h1 : hN tag + hH v + (hsz (pr udp) + data.length) ≤ k) (h2 : k ≤ hN tag + hH v + (hsz (pr udp) + data.length) + pad) :
    (fB8 u v udp f data tag bare (List.replicate pad 0)).take k = fB8 u v udp f data tag bare (List.replicate (k - (hN tag + hH v + (hsz (pr udp) + data.length))) 0) := by
  have hh := headB_len v (sV u) dV (pr udp) (hsz (pr udp) + data.length) (sV_len u) dV_len
  have hn := segB_len (pr udp) (pr_or udp) v (sV u) dV (1000 + u % 50000) 80 f data bare
  have he := ethB_len tag v
  have hH' : hH v = if v then 40 else 20 := rfl
  unfold fB8 frR
  rw [← List.append_assoc, ← List.append_assoc, ← List.append_assoc, ← List.append_assoc]
  have hz : (ethB tag v ++ headB v (sV u) dV (pr udp) (hsz (pr udp) + data.length) ++ segB (pr udp) v (sV u) dV (1000 + u % 50000) 80 f data bare).length = hN tag + hH v + (hsz (pr udp) + data.length) := by
    rw [List.length_append, List.length_append, he, hh, hn, hH']
  generalize ethB tag v ++ headB v (sV u) dV (pr udp) (hsz (pr udp) + data.length) ++ segB (pr udp) v (sV u) dV (1000 + u % 50000) 80 f data bare = X at *
  rw [List.take_append, hz, List.take_of_length_le (by omega), List.take_replicate]
  congr 2; omega
theorem gf_no (zs : List Nat) (h : rr zs ≠ 0) : gf zs = false := by unfold gf; rw [decide_eq_false h]; rfl
theorem vw_no (zs : List Nat) (h : rr zs ≠ 0) : vw zs = v0 := by unfold vw; rw [if_neg h]
theorem eq_zero31 (w : World) : (Op.equalIn 10000 31 (.agg v0) (.agg #[Value.bool false, .int .i64 0, .int .i64 0, .int .i64 0, .int .u8 0, .bool false, .int .u8 0, .int .u8 0, .int .u8 0, .int .u8 0, .int .u8 0, .int .u8 0, .int .u8 0, .int .u8 0, .int .u8 0, .int .u8 0, .int .u8 0, .int .u8 0, .int .u8 0, .int .u8 0, .int .u8 0, .int .u8 0, .bool false, .int .u8 0, .int .u8 0, .int .u8 0, .int .u8 0, .int .u8 0, .int .u8 0, .int .u8 0, .int .u8 0, .int .u8 0, .int .u8 0, .int .u8 0, .int .u8 0, .int .u8 0, .int .u8 0, .int .u8 0, .int .u8 0, .int .u16 0, .int .u16 0, .int .u8 0])).run Try.prog w = .ok true w := eq_v0 w

set_option maxRecDepth 100000 in
set_option maxHeartbeats 4000000 in
theorem cut_in (n : Int) (v udp : Bool) (a : Option Addr) (la ca : Nat) (zs : List Nat) (pad : Nat) (cut : Int) (w : World) (hr : Rd w (.slice a la ca) (nus .u8 zs)) (hL : zs.length = la) (hna : a = none → ca = 0) (hb : ∀ c ∈ zs, c < 256) (hla : la ≤ 300) (hpad : pad ≤ 50) :
    Calls Try.prog 5 #[.int .i64 n, .bool v, .bool udp, .slice a la ca, .int .i64 (pad : Int), .int .i64 cut] w fun e w' => e = .returned (.bool true) ∧ Below w.heap.size w w' := by
  obtain ⟨u, hu⟩ : ∃ u, u = (n % 1073741824).toNat := ⟨_, rfl⟩
  have CK := Lib.hid (fun W => flow_any n v udp W)
  rw [← hu] at CK
  obtain ⟨tg, htg⟩ : ∃ t : Bool, (n.tmod 2 == 0) = t := ⟨_, rfl⟩
  have CB := Lib.hid (fun W (h : Rd W (.slice a la ca) (nus .u8 zs)) => fB8_any u v udp 0 pad a la ca zs tg false W h hL hna hb (by omega) (by omega) (by omega))
  have T := fB8_told u v udp 0 zs tg false (List.replicate pad 0) (by omega)
  have hlt := fB8_lt u v udp 0 zs tg false pad (by omega) hb
  have HP := Lib.hid (fun k => cut_pad u v udp 0 zs tg false pad k (by omega))
  have HC := Lib.hid (fun k => cut8 v (sV u) dV (pr udp) (1000 + u % 50000) 80 0 zs tg false (List.replicate pad 0) (pr_or udp) (sV_len u) dV_len (by omega) k)
  rw [show frR v (sV u) dV (pr udp) (1000 + u % 50000) 80 0 zs tg false (List.replicate pad 0) = fB8 u v udp 0 zs tg false (List.replicate pad 0) from rfl] at HC
  have HT2 := Lib.hid (fun R => fB8_told u v udp 0 zs tg false R (by omega))
  obtain ⟨en, hen⟩ : ∃ x, x = hN tg + hH v + (hsz (pr udp) + zs.length) := ⟨_, rfl⟩
  rw [← hen] at HP HC
  have hvw := T.vw
  rw [← hen] at hvw
  have HVW := Lib.hid (fun k => ((HT2.out (List.replicate k 0)).vw.trans (by rw [← hen])).trans hvw.symm)
  have e100 : en ≤ 400 := by
    have : hN tg ≤ 18 := by unfold hN; split <;> omega
    have : hH v ≤ 40 := by unfold hH; split <;> omega
    have : hsz (pr udp) ≤ 20 := by unfold hsz; split <;> omega
    omega
  have hlen : (fB8 u v udp 0 zs tg false (List.replicate pad 0)).length = en + pad := by
    have := T.len; rw [List.length_replicate, ← hen] at this; exact this
  have HRR := Lib.hid (fun k => (HT2.out (List.replicate k 0)).rr)
  have HGF := Lib.hid (fun k => (HT2.out (List.replicate k 0)).gf)
  have hv3 : (vw (fB8 u v udp 0 zs tg false (List.replicate pad 0)))[3]? = some (.int .i64 (en : Int)) := by rw [hvw]; rfl
  obtain ⟨kk, hk, hk2⟩ : ∃ k : Nat, cut % (((en + pad : Nat) : Int) + 1) = (k : Int) ∧ k ≤ en + pad := by
    have h1 := Int.emod_nonneg cut (show (((en + pad : Nat) : Int) + 1) ≠ 0 by omega)
    have h2 := Int.emod_lt_of_pos cut (show (0 : Int) < ((en + pad : Nat) : Int) + 1 by omega)
    exact ⟨(cut % (((en + pad : Nat) : Int) + 1)).toNat, by omega, by omega⟩
  have hX : (kk < en ∧ rr ((fB8 u v udp 0 zs tg false (List.replicate pad 0)).take kk) = 1) ∨ (en ≤ kk ∧ rr ((fB8 u v udp 0 zs tg false (List.replicate pad 0)).take kk) = 0 ∧ vw ((fB8 u v udp 0 zs tg false (List.replicate pad 0)).take kk) = vw (fB8 u v udp 0 zs tg false (List.replicate pad 0)) ∧ gf ((fB8 u v udp 0 zs tg false (List.replicate pad 0)).take kk) = true) := by
    rcases Nat.lt_or_ge kk en with h | h
    · exact .inl ⟨h, (HC.out kk h).1⟩
    · refine .inr ⟨h, ?_⟩
      rw [HP.out kk h hk2]
      exact ⟨HRR.out _, HVW.out _, HGF.out _⟩
  have hrr := T.rr
  clear HP HC HT2 HVW HRR HGF T hvw
  generalize fB8 u v udp 0 zs tg false (List.replicate pad 0) = F at *
  have CR := Lib.hid (fun W z (h : Rd W z (nus .u8 F)) => fread_any z F W h hlt (.inl (by omega)))
  rw [hrr] at CR
  have CX := Lib.hid (fun W z (h : Rd W z (nus .u8 (F.take kk))) => fread_any z (F.take kk) W h (fun c hc => hlt c (List.mem_of_mem_take hc)) (.inl (by rw [List.length_take]; omega)))
  have CG := Lib.hid (fun W z (h : Rd W z (nus .u8 (F.take kk))) => fgood_any z (F.take kk) W h (fun c hc => hlt c (List.mem_of_mem_take hc)) (by rw [List.length_take]; omega))
  have QV := fun W => eq_vw F hlt (by omega) W
  have Q0 := fun W => eq_zero31 W
  have zk := flow_size u v udp
  have Ak := Lib.hid (flow_all u v udp)
  have zv := vw_size F
  have Av := Lib.hid (vw_all F)
  have H3 := Lib.hid hv3
  have HFL := Lib.hid hlen
  rw [hlen] at CB
  have HX := Lib.hid hX
  have HKK := Lib.hid hk
  generalize vw F = VA at *
  generalize flow u v udp = kc at *
  have Zv := Lib.hid (i72.trans (congrArg some zv.symm))
  have Yv : Hid (VA.size = Array.size (#[Value.bool false, .int .i64 0, .int .i64 0, .int .i64 0, .int .u8 0, .bool false, .int .u8 0, .int .u8 0, .int .u8 0, .int .u8 0, .int .u8 0, .int .u8 0, .int .u8 0, .int .u8 0, .int .u8 0, .int .u8 0, .int .u8 0, .int .u8 0, .int .u8 0, .int .u8 0, .int .u8 0, .int .u8 0, .bool false, .int .u8 0, .int .u8 0, .int .u8 0, .int .u8 0, .int .u8 0, .int .u8 0, .int .u8 0, .int .u8 0, .int .u8 0, .int .u8 0, .int .u8 0, .int .u8 0, .int .u8 0, .int .u8 0, .int .u8 0, .int .u8 0, .int .u16 0, .int .u16 0, .int .u8 0] : Array Value)) := zv
  have Y0 : Hid (v0.size = Array.size (#[Value.bool false, .int .i64 0, .int .i64 0, .int .i64 0, .int .u8 0, .bool false, .int .u8 0, .int .u8 0, .int .u8 0, .int .u8 0, .int .u8 0, .int .u8 0, .int .u8 0, .int .u8 0, .int .u8 0, .int .u8 0, .int .u8 0, .int .u8 0, .int .u8 0, .int .u8 0, .int .u8 0, .int .u8 0, .bool false, .int .u8 0, .int .u8 0, .int .u8 0, .int .u8 0, .int .u8 0, .int .u8 0, .int .u8 0, .int .u8 0, .int .u8 0, .int .u8 0, .int .u8 0, .int .u8 0, .int .u8 0, .int .u8 0, .int .u8 0, .int .u8 0, .int .u16 0, .int .u16 0, .int .u8 0] : Array Value)) := v0_size
  have Z0 := Lib.hid (i72.trans (congrArg some v0_size.symm))
  have A0 := Lib.hid v0_all
  have K := Lib.hid (Below.refl w.heap.size w)
  have HR := Lib.hid hr
  have hd1 : decide ((300 : Int) < (la : Int)) = false := decide_eq_false (by omega)
  have hd2 : decide ((pad : Int) < 0) = false := decide_eq_false (by omega)
  have hd3 : decide ((50 : Int) < (pad : Int)) = false := decide_eq_false (by omega)
  have htm : IntKind.i64.wrap (n.tmod 2) = n.tmod 2 := by
    have h1 := Int.lt_tmod_of_pos n (show (0 : Int) < 2 by omega)
    have h2 := Int.tmod_lt_of_pos n (show (0 : Int) < 2 by omega)
    rw [IntKind.wrap_i64]; omega
  clear hlt hX zk zv hen hu hr hL hna hb hk hv3 hrr hlen
  obtain ⟨m, hm⟩ : ∃ m, m = en + pad := ⟨_, rfl⟩
  rw [← hm] at CB HKK hk2 HFL
  have wm := Lib.hid (show IntKind.i64.wrap ((m : Int) + 1) = (m : Int) + 1 by rw [IntKind.wrap_i64]; omega)
  have hm1 : m ≤ 460 := by omega
  clear hm
  go_enter Try.func5, Try.ntmps5
  go_wp2_with fail
  refine (CK.out _).mono ?_
  rintro e V1 ⟨rfl, hy⟩
  replace K := Lib.hid (K.out.trans (hy.mono K.out.size))
  clear hy
  go_wp2_with fail
  refine (CB.out _ (HR.out.below K.out)).mono ?_
  rintro e V2 ⟨g, c, rfl, ho, hy⟩
  replace K := Lib.hid (K.out.trans (hy.mono K.out.size))
  have R := Lib.hid (Rd.own ho)
  have RC := Lib.hid ((Rd.own ho).front kk (by rw [HFL.out]; exact hk2))
  have hcc : (kk : Int) ≤ (c : Int) := by
    obtain ⟨_, _, e1, h1, -⟩ := Rd.own ho
    simp only [Value.slice.injEq] at e1
    obtain ⟨-, -, rfl⟩ := e1
    rw [nus_length, HFL.out] at h1
    omega
  clear ho
  clear hy
  clear hd1 hd2 hd3 htm htg
  go_wp2_with fail
  refine (CR.out _ _ R.out).mono ?_
  rintro e V3 ⟨rfl, hy⟩
  replace K := Lib.hid (K.out.trans (hy.mono K.out.size))
  replace R := Lib.hid (R.out.below hy)
  replace RC := Lib.hid (RC.out.below hy)
  clear hy
  go_wp2_with (((with_reducible refine wpList_blk_store (op := ⟨none, .store 31 (.tmp 14) (.tmp 44), _, _, _, _⟩) ?sg1 31 (.tmp 14) (.tmp 44) ?so1 (V3.heap.size) VA ?sx1 ?sy1 (Blk.new V3 31 #[Value.bool false, .int .i64 0, .int .i64 0, .int .i64 0, .int .u8 0, .bool false, .int .u8 0, .int .u8 0, .int .u8 0, .int .u8 0, .int .u8 0, .int .u8 0, .int .u8 0, .int .u8 0, .int .u8 0, .int .u8 0, .int .u8 0, .int .u8 0, .int .u8 0, .int .u8 0, .int .u8 0, .int .u8 0, .bool false, .int .u8 0, .int .u8 0, .int .u8 0, .int .u8 0, .int .u8 0, .int .u8 0, .int .u8 0, .int .u8 0, .int .u8 0, .int .u8 0, .int .u8 0, .int .u8 0, .int .u8 0, .int .u8 0, .int .u8 0, .int .u8 0, .int .u16 0, .int .u16 0, .int .u8 0]) Yv.out Zv.out Av.out ?_); (case sg1 => rfl); (case so1 => rfl); (case sx1 => rfl); (case sy1 => rfl)))
  intro V4 hA hF hB
  have hy := ((Below.refl V3.heap.size V3).alloc (Nat.le_refl _) (.cells #[Value.bool false, .int .i64 0, .int .i64 0, .int .i64 0, .int .u8 0, .bool false, .int .u8 0, .int .u8 0, .int .u8 0, .int .u8 0, .int .u8 0, .int .u8 0, .int .u8 0, .int .u8 0, .int .u8 0, .int .u8 0, .int .u8 0, .int .u8 0, .int .u8 0, .int .u8 0, .int .u8 0, .int .u8 0, .bool false, .int .u8 0, .int .u8 0, .int .u8 0, .int .u8 0, .int .u8 0, .int .u8 0, .int .u8 0, .int .u8 0, .int .u8 0, .int .u8 0, .int .u8 0, .int .u8 0, .int .u8 0, .int .u8 0, .int .u8 0, .int .u8 0, .int .u16 0, .int .u16 0, .int .u8 0] 31)).trans (hB _ (Nat.le_refl _))
  replace K := Lib.hid (K.out.trans (hy.mono K.out.size))
  replace R := Lib.hid (R.out.below hy)
  replace RC := Lib.hid (RC.out.below hy)
  have NV := Lib.hid hA
  clear hA hF hB hy
  have wm1 := wm.out
  go_wp2_with fail
  refine (round_any cut ((m : Int) + 1) _ (by omega) (by omega)).mono ?_
  rintro e V5 ⟨rfl, rfl⟩
  rw [HKK.out]
  rcases HX.out with ⟨hlt, hx1⟩ | ⟨hge, hx0, hxv, hxg⟩
  · have CX1 := Lib.hid (show ∀ W z, Rd W z (nus .u8 (F.take kk)) → Calls Try.prog 9 #[z] W fun e w' => e = .returned (.tuple #[.agg v0, .int .i64 1]) ∧ Below W.heap.size W w' from fun W z h => by have := CX.out W z h; rw [hx1, vw_no _ (by omega)] at this; exact this)
    have CG1 := Lib.hid (show ∀ W z, Rd W z (nus .u8 (F.take kk)) → Calls Try.prog 13 #[z] W fun e w' => e = .returned (.bool false) ∧ Below W.heap.size W w' from fun W z h => by have := CG.out W z h; rw [gf_no _ (by omega)] at this; exact this)
    have hdk : decide ((kk : Int) < (en : Int)) = true := decide_eq_true (by omega)
    clear CX CG HX hx1
    go_wp2_with fail
    refine (CX1.out _ _ RC.out).mono ?_
    rintro e V6 ⟨rfl, hy⟩
    replace K := Lib.hid (K.out.trans (hy.mono K.out.size))
    replace R := Lib.hid (R.out.below hy)
    replace RC := Lib.hid (RC.out.below hy)
    replace NV := Lib.hid (NV.out.below hy NV.out.lt)
    clear hy
    go_wp2_with (((with_reducible refine wpList_blk_store (op := ⟨none, .store 31 (.tmp 17) (.tmp 58), _, _, _, _⟩) ?sg2 31 (.tmp 17) (.tmp 58) ?so2 (V6.heap.size) v0 ?sx2 ?sy2 (Blk.new V6 31 #[Value.bool false, .int .i64 0, .int .i64 0, .int .i64 0, .int .u8 0, .bool false, .int .u8 0, .int .u8 0, .int .u8 0, .int .u8 0, .int .u8 0, .int .u8 0, .int .u8 0, .int .u8 0, .int .u8 0, .int .u8 0, .int .u8 0, .int .u8 0, .int .u8 0, .int .u8 0, .int .u8 0, .int .u8 0, .bool false, .int .u8 0, .int .u8 0, .int .u8 0, .int .u8 0, .int .u8 0, .int .u8 0, .int .u8 0, .int .u8 0, .int .u8 0, .int .u8 0, .int .u8 0, .int .u8 0, .int .u8 0, .int .u8 0, .int .u8 0, .int .u8 0, .int .u16 0, .int .u16 0, .int .u8 0]) Y0.out Z0.out A0.out ?_); (case sg2 => rfl); (case so2 => rfl); (case sx2 => rfl); (case sy2 => rfl)))
    have qNVNW : V3.heap.size < V6.heap.size := NV.out.lt
    intro V7 hA hF hB
    have hy := ((Below.refl V6.heap.size V6).alloc (Nat.le_refl _) (.cells #[Value.bool false, .int .i64 0, .int .i64 0, .int .i64 0, .int .u8 0, .bool false, .int .u8 0, .int .u8 0, .int .u8 0, .int .u8 0, .int .u8 0, .int .u8 0, .int .u8 0, .int .u8 0, .int .u8 0, .int .u8 0, .int .u8 0, .int .u8 0, .int .u8 0, .int .u8 0, .int .u8 0, .int .u8 0, .bool false, .int .u8 0, .int .u8 0, .int .u8 0, .int .u8 0, .int .u8 0, .int .u8 0, .int .u8 0, .int .u8 0, .int .u8 0, .int .u8 0, .int .u8 0, .int .u8 0, .int .u8 0, .int .u8 0, .int .u8 0, .int .u8 0, .int .u16 0, .int .u16 0, .int .u8 0] 31)).trans (hB _ (Nat.le_refl _))
    replace K := Lib.hid (K.out.trans (hy.mono K.out.size))
    replace R := Lib.hid (R.out.below hy)
    replace RC := Lib.hid (RC.out.below hy)
    replace NV := Lib.hid (NV.out.below hy NV.out.lt)
    have NW := Lib.hid hA
    clear hA hF hB hy
    have L3 := (NV.out.cell 3).trans H3.out
    have L4 : (loadVar 31 ⟨V6.heap.size, 0, none⟩).run Try.prog V7 = .ok (.agg v0) V7 := run_blk_load (P := Try.prog) 31 (V6.heap.size) _ NW.out Try.underlying31 rfl Z0.out
    replace L4 := Lib.hid L4
    go_wp2_with (((with_reducible refine wpList_load_want (op := ⟨some 67, .load 31 (.tmp 17), _, _, _, _⟩) ?wg4 31 (.tmp 17) ?wo4 ⟨V6.heap.size, 0, none⟩ ?wx4 (.agg v0) L4.out ?_); (case wg4 => rfl); (case wo4 => rfl); (case wx4 => rfl)))
    clear L3 L4
    refine (CG1.out _ _ RC.out).mono ?_
    rintro e V8 ⟨rfl, hy⟩
    replace K := Lib.hid (K.out.trans (hy.mono K.out.size))
    replace R := Lib.hid (R.out.below hy)
    replace RC := Lib.hid (RC.out.below hy)
    replace NV := Lib.hid (NV.out.below hy NV.out.lt)
    replace NW := Lib.hid (NW.out.below hy NW.out.lt)
    clear hy
    go_wp2_with fail
    refine (awake_any _).mono ?_
    rintro e V9 ⟨rfl, hy⟩
    replace K := Lib.hid (K.out.trans (hy.mono K.out.size))
    replace R := Lib.hid (R.out.below hy)
    replace RC := Lib.hid (RC.out.below hy)
    replace NV := Lib.hid (NV.out.below hy NV.out.lt)
    replace NW := Lib.hid (NW.out.below hy NW.out.lt)
    clear hy
    go_wp2
    go_ret
    exact ⟨rfl, K.out⟩
  · have CX1 := Lib.hid (show ∀ W z, Rd W z (nus .u8 (F.take kk)) → Calls Try.prog 9 #[z] W fun e w' => e = .returned (.tuple #[.agg VA, .int .i64 0]) ∧ Below W.heap.size W w' from fun W z h => by have := CX.out W z h; rw [hx0, hxv] at this; exact this)
    have CG1 := Lib.hid (show ∀ W z, Rd W z (nus .u8 (F.take kk)) → Calls Try.prog 13 #[z] W fun e w' => e = .returned (.bool true) ∧ Below W.heap.size W w' from fun W z h => by have := CG.out W z h; rw [hxg] at this; exact this)
    have hdk : decide ((kk : Int) < (en : Int)) = false := decide_eq_false (by omega)
    clear CX CG HX hx0 hxv hxg
    go_wp2_with fail
    refine (CX1.out _ _ RC.out).mono ?_
    rintro e V6 ⟨rfl, hy⟩
    replace K := Lib.hid (K.out.trans (hy.mono K.out.size))
    replace R := Lib.hid (R.out.below hy)
    replace RC := Lib.hid (RC.out.below hy)
    replace NV := Lib.hid (NV.out.below hy NV.out.lt)
    clear hy
    go_wp2_with (((with_reducible refine wpList_blk_store (op := ⟨none, .store 31 (.tmp 17) (.tmp 58), _, _, _, _⟩) ?sg5 31 (.tmp 17) (.tmp 58) ?so5 (V6.heap.size) VA ?sx5 ?sy5 (Blk.new V6 31 #[Value.bool false, .int .i64 0, .int .i64 0, .int .i64 0, .int .u8 0, .bool false, .int .u8 0, .int .u8 0, .int .u8 0, .int .u8 0, .int .u8 0, .int .u8 0, .int .u8 0, .int .u8 0, .int .u8 0, .int .u8 0, .int .u8 0, .int .u8 0, .int .u8 0, .int .u8 0, .int .u8 0, .int .u8 0, .bool false, .int .u8 0, .int .u8 0, .int .u8 0, .int .u8 0, .int .u8 0, .int .u8 0, .int .u8 0, .int .u8 0, .int .u8 0, .int .u8 0, .int .u8 0, .int .u8 0, .int .u8 0, .int .u8 0, .int .u8 0, .int .u8 0, .int .u16 0, .int .u16 0, .int .u8 0]) Yv.out Zv.out Av.out ?_); (case sg5 => rfl); (case so5 => rfl); (case sx5 => rfl); (case sy5 => rfl)))
    have qNVNW : V3.heap.size < V6.heap.size := NV.out.lt
    intro V7 hA hF hB
    have hy := ((Below.refl V6.heap.size V6).alloc (Nat.le_refl _) (.cells #[Value.bool false, .int .i64 0, .int .i64 0, .int .i64 0, .int .u8 0, .bool false, .int .u8 0, .int .u8 0, .int .u8 0, .int .u8 0, .int .u8 0, .int .u8 0, .int .u8 0, .int .u8 0, .int .u8 0, .int .u8 0, .int .u8 0, .int .u8 0, .int .u8 0, .int .u8 0, .int .u8 0, .int .u8 0, .bool false, .int .u8 0, .int .u8 0, .int .u8 0, .int .u8 0, .int .u8 0, .int .u8 0, .int .u8 0, .int .u8 0, .int .u8 0, .int .u8 0, .int .u8 0, .int .u8 0, .int .u8 0, .int .u8 0, .int .u8 0, .int .u8 0, .int .u16 0, .int .u16 0, .int .u8 0] 31)).trans (hB _ (Nat.le_refl _))
    replace K := Lib.hid (K.out.trans (hy.mono K.out.size))
    replace R := Lib.hid (R.out.below hy)
    replace RC := Lib.hid (RC.out.below hy)
    replace NV := Lib.hid (NV.out.below hy NV.out.lt)
    have NW := Lib.hid hA
    clear hA hF hB hy
    have L6 := (NV.out.cell 3).trans H3.out
    have L7 : (loadVar 31 ⟨V6.heap.size, 0, none⟩).run Try.prog V7 = .ok (.agg VA) V7 := run_blk_load (P := Try.prog) 31 (V6.heap.size) _ NW.out Try.underlying31 rfl Zv.out
    replace L7 := Lib.hid L7
    have L8 : (loadVar 31 ⟨V3.heap.size, 0, none⟩).run Try.prog V7 = .ok (.agg VA) V7 := run_blk_load (P := Try.prog) 31 (V3.heap.size) _ NV.out Try.underlying31 rfl Zv.out
    replace L8 := Lib.hid L8
    go_wp2_with (first | ((with_reducible refine wpList_load_want (op := ⟨some 84, .load 31 (.tmp 17), _, _, _, _⟩) ?wg7 31 (.tmp 17) ?wo7 ⟨V6.heap.size, 0, none⟩ ?wx7 (.agg VA) L7.out ?_); (case wg7 => rfl); (case wo7 => rfl); (case wx7 => rfl)) | ((with_reducible refine wpList_load_want (op := ⟨some 85, .load 31 (.tmp 14), _, _, _, _⟩) ?wg8 31 (.tmp 14) ?wo8 ⟨V3.heap.size, 0, none⟩ ?wx8 (.agg VA) L8.out ?_); (case wg8 => rfl); (case wo8 => rfl); (case wx8 => rfl)))
    clear L6 L7 L8
    refine (CG1.out _ _ RC.out).mono ?_
    rintro e V8 ⟨rfl, hy⟩
    replace K := Lib.hid (K.out.trans (hy.mono K.out.size))
    replace R := Lib.hid (R.out.below hy)
    replace RC := Lib.hid (RC.out.below hy)
    replace NV := Lib.hid (NV.out.below hy NV.out.lt)
    replace NW := Lib.hid (NW.out.below hy NW.out.lt)
    clear hy
    go_wp2_with fail
    refine (awake_any _).mono ?_
    rintro e V9 ⟨rfl, hy⟩
    replace K := Lib.hid (K.out.trans (hy.mono K.out.size))
    replace R := Lib.hid (R.out.below hy)
    replace RC := Lib.hid (RC.out.below hy)
    replace NV := Lib.hid (NV.out.below hy NV.out.lt)
    replace NW := Lib.hid (NW.out.below hy NW.out.lt)
    clear hy
    go_wp2
    go_ret
    exact ⟨rfl, K.out⟩

set_option maxRecDepth 100000 in
set_option maxHeartbeats 1000000 in
theorem cut_off (n : Int) (v udp : Bool) (a : Option Addr) (la ca : Nat) (pad : Int) (cut : Int) (w : World) (h : 300 < la ∨ pad < 0 ∨ 50 < pad) :
    Calls Try.prog 5 #[.int .i64 n, .bool v, .bool udp, .slice a la ca, .int .i64 pad, .int .i64 cut] w fun e w' => e = .returned (.bool true) ∧ Below w.heap.size w w' := by
  by_cases h1 : 300 < la
  · have hd1 : decide ((300 : Int) < (la : Int)) = true := decide_eq_true (by omega)
    clear h h1
    go_enter Try.func5, Try.ntmps5
    go_wp2_with fail
    refine (awake_any _).mono ?_
    rintro e w1 ⟨rfl, hy⟩
    go_wp2
    go_ret
    exact ⟨rfl, hy⟩
  have hd1 : decide ((300 : Int) < (la : Int)) = false := decide_eq_false (by omega)
  by_cases h2 : pad < 0
  · have hd2 : decide (pad < 0) = true := decide_eq_true h2
    clear h h1 h2
    go_enter Try.func5, Try.ntmps5
    go_wp2_with fail
    refine (awake_any _).mono ?_
    rintro e w1 ⟨rfl, hy⟩
    go_wp2
    go_ret
    exact ⟨rfl, hy⟩
  have hd2 : decide (pad < 0) = false := decide_eq_false h2
  have hd3 : decide (50 < pad) = true := decide_eq_true (by omega)
  clear h h1 h2
  go_enter Try.func5, Try.ntmps5
  go_wp2_with fail
  refine (awake_any _).mono ?_
  rintro e w1 ⟨rfl, hy⟩
  go_wp2
  go_ret
  exact ⟨rfl, hy⟩
theorem cut_walk (n : Int) (v udp : Bool) (a : Option Addr) (la ca : Nat) (zs : List Nat) (pad : Int) (cut : Int) (w : World) (hr : Rd w (.slice a la ca) (nus .u8 zs)) (hL : zs.length = la) (hna : a = none → ca = 0) (hb : ∀ c ∈ zs, c < 256) :
    Calls Try.prog 5 #[.int .i64 n, .bool v, .bool udp, .slice a la ca, .int .i64 pad, .int .i64 cut] w fun e w' => e = .returned (.bool true) ∧ Below w.heap.size w w' := by
  by_cases h : 300 < la ∨ pad < 0 ∨ 50 < pad
  · exact cut_off n v udp a la ca pad cut w h
  obtain ⟨q, rfl⟩ := Int.eq_ofNat_of_zero_le (show 0 ≤ pad by omega)
  exact cut_in n v udp a la ca zs q cut w hr hL hna hb (by omega) (by omega)
end Go.Proofs.Ytopfbgoiehlhbaa

